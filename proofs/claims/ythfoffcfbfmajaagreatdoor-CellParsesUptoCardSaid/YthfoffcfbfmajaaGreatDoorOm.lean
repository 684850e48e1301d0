/- general: a row of bytes that a conversion of a string has made (its block is marked behind its end): append onto it. No program is named here. -/
import Derived.Test.YthfoffcfbfmajaaGreatDoorStr
import Derived.Test.YthfoffcfbfmajaaGreatDoorSep
import Derived.Lib.ConvBytes
import Derived.Lib.FrozenHead
namespace Go.Proofs.YthfoffcfbfmajaaGreatDoor
open Go.RowKit
set_option linter.unusedVariables false

theorem run_storeCells_atM (P : Program) (g o : Nat) (t : TypeId) (fz : Nat × Nat) : ∀ (vs : List Value) (i : Nat) (cur : Array Value) (w : World), w.heap[g]? = some (.cells cur t fz) → (fz.2 = 0 ∨ cur.size ≤ fz.1) → o + i + vs.length ≤ cur.size → (∀ v ∈ vs, v.oneCell' = true) →
    (storeCells ⟨g, o, none⟩ vs i).run P w = .ok () (w.setRow g (cur.toList.take (o + i) ++ vs ++ cur.toList.drop (o + i + vs.length)).toArray)
  | [], i, cur, w, hg, _, _, _ => by
    simp only [storeCells, List.append_nil, List.length_nil, Nat.add_zero, List.take_append_drop, Array.toArray_toList]
    rw [setRow_self w g cur t fz hg]
    rfl
  | v :: rest, i, cur, w, hg, hfz, hl, h1 => by
    have hi : o + i < cur.size := by simp at hl; omega
    have hadd : (⟨g, o, none⟩ : Addr).add i = ⟨g, o + i, none⟩ := by unfold Addr.add; split <;> simp_all
    have hcell : w.cell? ⟨g, o + i, none⟩ = some cur[o + i] := by simp [World.cell?, hg, hi]
    have hfro : w.frozen? ⟨g, o + i, none⟩ = false := by
      obtain ⟨lo, hi'⟩ := fz
      simp only [World.frozen?, hg, Bool.and_eq_false_iff, decide_eq_false_iff_not]
      simp only at hfz
      rcases hfz with h | h
      · right; omega
      · left; omega
    have hst : (store ((⟨g, o, none⟩ : Addr).add i) v).run P w = .ok () (w.setRow g (cur.setIfInBounds (o + i) v)) := by
      rw [hadd, run_store P w _ v _ (h1 v (by simp)), hcell]
      simp [hfro, setCell_eq_setRow w g (o + i) cur t fz v hg]
    have ih := run_storeCells_atM P g o t fz rest (i + 1) (cur.setIfInBounds (o + i) v) (w.setRow g (cur.setIfInBounds (o + i) v)) (setRow_heap w g cur _ t _ hg) (by simpa using hfz) (by simp at hl ⊢; omega) (fun x hx => h1 x (by simp [hx]))
    simp only [storeCells, Sem.run_bind, hst, Result.andThen_ok, ih, setRow_setRow]
    congr 3
    have e := list_seg_step cur.toList (o + i) v rest (by simp at hl ⊢; omega)
    simpa [Array.toList_setIfInBounds, Nat.add_assoc] using e

/-- a row of bytes, in a block that may be marked behind its end -/
def OM (w : World) (base : Nat) (e : TypeId) (v : Value) (bs : List Nat) : Prop := IsBytes bs ∧ ∃ g cap cur fz, v = .slice (some ⟨g, 0, none⟩) bs.length cap ∧ base ≤ g ∧ w.heap[g]? = some (.cells cur e fz) ∧ (fz.2 = 0 ∨ cur.size ≤ fz.1) ∧ bs.length ≤ cap ∧ cap ≤ maxLen ∧ cur.size = cap ∧ cur.toList.take bs.length = cells8 bs
section
variable {w w' : World} {base : Nat} {e : TypeId} {v : Value} {bs : List Nat}
theorem OM.lt (h : OM w base e v bs) : ∀ k, v.ownBlock = some k → base ≤ k ∧ k < w.heap.size := by
  obtain ⟨_, g, cap, cur, fz, rfl, h1, h2, _⟩ := h
  intro k hk
  simp only [Value.ownBlock, Option.some.injEq] at hk
  subst hk
  exact ⟨h1, (Array.getElem?_eq_some_iff.1 h2).1⟩
theorem OM.keep (h : OM w base e v bs) (hk : ∀ k, v.ownBlock = some k → w'.heap[k]? = w.heap[k]?) : OM w' base e v bs := by
  obtain ⟨hb, g, cap, cur, fz, rfl, h1, h2, h3⟩ := h
  exact ⟨hb, g, cap, cur, fz, rfl, h1, (hk g rfl).trans h2, h3⟩
theorem OM.mono {base' : Nat} (h : OM w base e v bs) (hb : base' ≤ base) : OM w base' e v bs := by
  obtain ⟨hb1, g, cap, cur, fz, rfl, h1, h2⟩ := h
  exact ⟨hb1, g, cap, cur, fz, rfl, by omega, h2⟩
theorem OM.alloc (h : OM w base e v bs) (o : Obj) : OM (w.alloc o) base e v bs := h.keep fun k hk => heap_alloc_old w o (h.lt k hk).2
theorem OM.form (h : OM w base e v bs) : ∃ g cap, v = .slice (some ⟨g, 0, none⟩) bs.length cap ∧ bs.length ≤ cap ∧ cap ≤ maxLen ∧ RB w w.heap.size (some ⟨g, 0, none⟩) bs := by
  obtain ⟨hb, g, cap, cur, fz, rfl, h1, h2, h3, h4, h5, h6, h7⟩ := h
  refine ⟨g, cap, rfl, h4, h5, hb, by simp [cells8], fun _ => ⟨_, rfl, (Array.getElem?_eq_some_iff.1 h2).1, fun j u hu => ?_⟩⟩
  have hadd : (⟨g, 0, none⟩ : Addr).add j = ⟨g, j, none⟩ := by unfold Addr.add; split <;> simp_all
  rw [hadd, cell_of_row w g j cur e fz h2]
  rw [← h7, List.getElem?_take] at hu
  split at hu
  · simpa using hu
  · cases hu
end
/-- what a conversion gives -/
theorem OM.conv (w : World) (e : TypeId) (s : ByteArray) (hs : s.size ≤ maxLen) : OM (Lib.bytesWorld w e s) w.heap.size e (.slice (some ⟨w.heap.size, 0, none⟩) s.size (grownCap w s.size 0 e)) (strBytes s) := by
  have hge := grownCap_ge w s.size 0 e
  have hle := grownCap_le_maxLen w s.size 0 e hs
  have hsz : (Lib.bytesCells w e s).size = grownCap w s.size 0 e := by
    unfold Lib.bytesCells
    rw [Array.size_append, Array.size_map, Array.size_replicate]
    have : s.data.size = s.size := rfl
    omega
  refine ⟨strBytes_is s, _, _, _, _, by rw [strBytes_length], Nat.le_refl _, Lib.bytesWorld_at_new w e s, .inr (Nat.le_refl _), by rw [strBytes_length]; exact hge, hle, hsz, ?_⟩
  unfold Lib.bytesCells
  rw [Array.toList_append, Array.toList_map]
  have h1 : (s.data.toList.map fun b => Value.int .u8 (b.toNat : Int)) = cells8 (strBytes s) := by simp [cells8, strBytes]
  rw [h1]
  have h2 : (strBytes s).length = (cells8 (strBytes s)).length := by simp [cells8]
  rw [h2]
  exact List.take_left
theorem bytesWorld_below (w : World) (e : TypeId) (s : ByteArray) : Below w.heap.size w (Lib.bytesWorld w e s) := by
  have h1 : Below w.heap.size w (w.drew.alloc (.cells (Lib.bytesCells w e s) e)) := ((Below.refl _ _).drew).alloc (Nat.le_refl _) _
  exact ⟨h1.os, h1.tape, h1.output, by rw [Lib.bytesWorld_size]; exact Nat.le_succ _, fun i hi => Lib.bytesWorld_at_old w e s i hi⟩
section
variable {P : Program} (w : World)
theorem run_append_om_str (t u ty : TypeId) (base : Nat) (e : TypeId) (i : TypeInfo) (ht : P.underlying t = some (.slice e)) (hu : P.underlying u = some .string) (hi : P.info? e = some i) (hz : i.zero = some (.int .u8 0)) (hsize : i.size = 1) (hby : i.bytes = 1)
    (v : Value) (bs : List Nat) (hown : OM w base e v bs) (s : ByteArray) (hlen : bs.length + s.size ≤ 140737488355328) (hbase : base ≤ w.heap.size) :
    ∃ v' w', (Builtin.append_ #[t, u] ty #[v, .string s]).run P w = .ok v' w' ∧ OM w' base e v' (bs ++ strBytes s) ∧ w.grownBy w' v.ownBlock ∧ (v'.ownBlock = v.ownBlock ∨ v'.ownBlock = some w.heap.size) := by
  obtain ⟨g0, cap0, hv0, -, -, hrb⟩ := hown.form
  obtain ⟨hb, g, cap, cur, fz, rfl, h1, h2, h3, h4, h5, h6, h7⟩ := hown
  simp only [Value.slice.injEq, Option.some.injEq, Addr.mk.injEq] at hv0
  obtain ⟨⟨rfl, -, -⟩, -, rfl⟩ := hv0
  have hbb := hb.append (strBytes_is s)
  have hl : (bs ++ strBytes s).length = bs.length + s.size := by rw [List.length_append, strBytes_length]
  have hcl : (cells8 bs).length = bs.length := by simp [cells8]
  by_cases hroom : bs.length + s.size ≤ cap
  · have hf := Lib.run_firstCells_string (P := P) w 1 s
    have hst := run_storeCells_atM P g bs.length e fz (Lib.strCells s) 0 cur w h2 h3 (by rw [Lib.strCells_length]; omega) (Lib.strCells_oneCell s)
    simp only [Nat.add_zero, Lib.strCells_length] at hst
    have hr : (Builtin.append_ #[t, u] ty #[.slice (some ⟨g, 0, none⟩) bs.length cap, .string s]).run P w = .ok (.slice (some ⟨g, 0, none⟩) (bs.length + s.size) cap) (w.setRow g (cur.toList.take bs.length ++ Lib.strCells s ++ cur.toList.drop (bs.length + s.size)).toArray) := by
      simp [Builtin.append_, run_underlying ht, run_underlying hu, sizeOf, typeInfo, hi, hsize, Builtin.lenOf, hroom, hf, Addr.add_lit, hst]
    have hsz : (cur.toList.take bs.length ++ Lib.strCells s ++ cur.toList.drop (bs.length + s.size)).toArray.size = cap := by
      simp only [List.size_toArray, List.length_append, List.length_take, List.length_drop, Array.length_toList, Lib.strCells_length]
      omega
    refine ⟨_, _, hr, ⟨hbb, g, cap, _, fz, by rw [hl], h1, setRow_heap w g cur _ e _ h2, ?_, by rw [hl]; exact hroom, h5, hsz, ?_⟩, ⟨rfl, rfl, rfl, by simp, fun k _ hk => setRow_other w g k _ (fun e => hk (by simp [Value.ownBlock, e]))⟩, .inl rfl⟩
    · rw [hsz, ← h6]; exact h3
    · rw [h7, cells8_append, ← strCells_eq]
      show List.take _ (cells8 bs ++ Lib.strCells s ++ _) = _
      have e : (bs ++ strBytes s).length = (cells8 bs ++ Lib.strCells s).length := by rw [hl, List.length_append, hcl, Lib.strCells_length]
      rw [e]
      exact List.take_left
  · have holds : ∀ j u, (cells8 bs)[j]? = some u → w.cell? ((⟨g, 0, none⟩ : Addr).add j) = some u := by
      intro j u hu
      have hadd : (⟨g, 0, none⟩ : Addr).add j = ⟨g, j, none⟩ := by unfold Addr.add; split <;> simp_all
      rw [hadd, cell_of_row w g j cur e fz h2]
      rw [← h7, List.getElem?_take] at hu
      split at hu
      · simpa using hu
      · cases hu
    have hr := Lib.run_append_grow_string (P := P) w t u ty e i (.int .u8 0) ht hu hi hz ⟨g, 0, none⟩ bs.length cap (cells8 bs) (by rw [hsize, hcl]; omega) holds s (by omega) (by omega) (by rw [hby]; exact growslice_fits (by omega) (by omega))
    have hge := grownCap_ge w (bs.length + s.size) cap e
    have hcm2 : grownCap w (bs.length + s.size) cap e ≤ maxLen := grownCap_le_maxLen w (bs.length + s.size) cap e (by simp only [maxLen]; omega)
    refine ⟨_, _, hr, ⟨hbb, w.heap.size, _, _, (0, 0), by rw [hl], hbase, heap_alloc_new w.drew _, .inl rfl, by rw [hl]; exact hge, hcm2, ?_, ?_⟩, ⟨rfl, rfl, rfl, by simp, fun k hk _ => heap_alloc_old w.drew _ hk⟩, .inr rfl⟩
    · have hz1 : (Value.int IntKind.u8 0).cells.size = 1 := rfl
      simp only [Array.size_append, List.size_toArray, size_zeroCells, hz1, hcl, Lib.strCells_length]
      omega
    · simp only [Array.toList_append, List.append_assoc]
      rw [cells8_append, ← strCells_eq]
      have e : (bs ++ strBytes s).length = (cells8 bs ++ Lib.strCells s).length := by rw [hl, List.length_append, hcl, Lib.strCells_length]
      rw [e, ← List.append_assoc]
      exact List.take_left
/-- append of one byte that has just been laid is the same as of a string of one byte -/
theorem run_append_om_byte (t ty : TypeId) (base : Nat) (e : TypeId) (i : TypeInfo) (ht : P.underlying t = some (.slice e)) (hi : P.info? e = some i) (hz : i.zero = some (.int .u8 0)) (hsize : i.size = 1) (hby : i.bytes = 1)
    (v : Value) (bs : List Nat) (hown : OM w base e v bs) (N : Nat) (c n : Nat) (hn : n < 256) (ha : w.cell? ⟨N, 0, none⟩ = some (.int .u8 (n : Int))) (hlen : bs.length + 1 ≤ 140737488355328) (hbase : base ≤ w.heap.size) :
    ∃ v' w', (Builtin.append_ #[t, t] ty #[v, .slice (some ⟨N, 0, none⟩) 1 c]).run P w = .ok v' w' ∧ OM w' base e v' (bs ++ [n]) ∧ w.grownBy w' v.ownBlock ∧ (v'.ownBlock = v.ownBlock ∨ v'.ownBlock = some w.heap.size) := by
  obtain ⟨hb, g, cap, cur, fz, rfl, h1, h2, h3, h4, h5, h6, h7⟩ := hown
  have hbb : IsBytes (bs ++ [n]) := hb.append (by intro x hx; simp at hx; omega)
  have hl : (bs ++ [n]).length = bs.length + 1 := by simp
  have hcl : (cells8 bs).length = bs.length := by simp [cells8]
  have hnews : ∀ j u, ([Value.int .u8 (n : Int)] : List Value)[j]? = some u → w.cell? ((⟨N, 0, none⟩ : Addr).add j) = some u := by
    intro j u hu
    cases j with
    | zero =>
      simp at hu
      subst hu
      exact ha
    | succ j => simp at hu
  have h1c : ∀ u ∈ ([Value.int .u8 (n : Int)] : List Value), u.oneCell' = true := by
    intro u hu
    simp at hu
    subst hu
    rfl
  by_cases hroom : bs.length + 1 ≤ cap
  · have hf := run_firstCells_some (P := P) w i.size 1 ⟨N, 0, none⟩ 1 c [.int .u8 (n : Int)] (by rw [hsize]; rfl) hnews
    have hst := run_storeCells_atM P g bs.length e fz [.int .u8 (n : Int)] 0 cur w h2 h3 (by simp; omega) h1c
    simp only [Nat.add_zero, List.length_singleton] at hst
    rw [hsize] at hf
    have hr : (Builtin.append_ #[t, t] ty #[.slice (some ⟨g, 0, none⟩) bs.length cap, .slice (some ⟨N, 0, none⟩) 1 c]).run P w = .ok (.slice (some ⟨g, 0, none⟩) (bs.length + 1) cap) (w.setRow g (cur.toList.take bs.length ++ [Value.int .u8 (n : Int)] ++ cur.toList.drop (bs.length + 1)).toArray) := by
      have hst2 : (storeCells ⟨g, bs.length, none⟩ [Value.int .u8 (n : Int)]).run P w = _ := hst
      simp [Builtin.append_, run_underlying ht, sizeOf, typeInfo, hi, hsize, Builtin.lenOf, hroom, hf, Addr.add_lit, hst2, Result.andThen]
    have hsz : (cur.toList.take bs.length ++ [Value.int .u8 (n : Int)] ++ cur.toList.drop (bs.length + 1)).toArray.size = cap := by
      simp only [List.size_toArray, List.length_append, List.length_take, List.length_drop, Array.length_toList, List.length_singleton]
      omega
    refine ⟨_, _, hr, ⟨hbb, g, cap, _, fz, by rw [hl], h1, setRow_heap w g cur _ e _ h2, ?_, by rw [hl]; exact hroom, h5, hsz, ?_⟩, ⟨rfl, rfl, rfl, by simp, fun k _ hk => setRow_other w g k _ (fun e => hk (by simp [Value.ownBlock, e]))⟩, .inl rfl⟩
    · rw [hsz, ← h6]; exact h3
    · rw [h7, cells8_append]
      have e : (bs ++ [n]).length = (cells8 bs ++ cells8 [n]).length := by simp [cells8]
      rw [e]
      exact List.take_left
  · have holds : ∀ j u, (cells8 bs)[j]? = some u → w.cell? ((⟨g, 0, none⟩ : Addr).add j) = some u := by
      intro j u hu
      have hadd : (⟨g, 0, none⟩ : Addr).add j = ⟨g, j, none⟩ := by unfold Addr.add; split <;> simp_all
      rw [hadd, cell_of_row w g j cur e fz h2]
      rw [← h7, List.getElem?_take] at hu
      split at hu
      · simpa using hu
      · cases hu
    have hr := run_append_grow (P := P) w t ty e i (.int .u8 0) ht hi hz ⟨g, 0, none⟩ bs.length cap (cells8 bs) (by rw [hcl, hsize]; omega) holds ⟨N, 0, none⟩ 1 c [.int .u8 (n : Int)] (by rw [hsize]; rfl) hnews (by omega) (by omega) (by rw [hby]; exact growslice_fits (by omega) (by omega))
    have hge := grownCap_ge w (bs.length + 1) cap e
    have hcm2 : grownCap w (bs.length + 1) cap e ≤ maxLen := grownCap_le_maxLen w (bs.length + 1) cap e (by simp only [maxLen]; omega)
    refine ⟨_, _, hr, ⟨hbb, w.heap.size, _, _, (0, 0), by rw [hl], hbase, heap_alloc_new w.drew _, .inl rfl, by rw [hl]; exact hge, hcm2, ?_, ?_⟩, ⟨rfl, rfl, rfl, by simp, fun k hk _ => heap_alloc_old w.drew _ hk⟩, .inr rfl⟩
    · have hz1 : (Value.int IntKind.u8 0).cells.size = 1 := rfl
      simp only [Array.size_append, List.size_toArray, size_zeroCells, hz1, hcl, List.length_singleton]
      omega
    · simp only [Array.toList_append, List.append_assoc]
      rw [cells8_append]
      have e : (bs ++ [n]).length = (cells8 bs ++ cells8 [n]).length := by simp [cells8]
      rw [e, ← List.append_assoc]
      exact List.take_left
theorem wpList_append_om_str {ops : Array Oper} {rest : List Oper} {o : Oper} {a : Act} {Q : Exit → Act → World → Prop} (hgd : o.guard = none) (sl x : Operand) (t u : TypeId)
    (ho : o.op = .call { callee := .builtin .append, args := #[sl, x], argTypes := #[t, u] })
    (base : Nat) (e : TypeId) (i : TypeInfo) (ht : P.underlying t = some (.slice e)) (hu : P.underlying u = some .string) (hi : P.info? e = some i) (hz : i.zero = some (.int .u8 0)) (hsize : i.size = 1) (hby : i.bytes = 1)
    (v : Value) (bs : List Nat) (hs : a.eval sl = v) (hown : OM w base e v bs) (s : ByteArray) (hx : a.eval x = .string s)
    (hlen : bs.length + s.size ≤ 140737488355328) (hbase : base ≤ w.heap.size)
    (h : ∀ v' w', OM w' base e v' (bs ++ strBytes s) → w.grownBy w' v.ownBlock → (v'.ownBlock = v.ownBlock ∨ v'.ownBlock = some w.heap.size) → wpList P ops Q rest (a.put o.dst v') w') : wpList P ops Q (o :: rest) a w := by
  refine wpList_plain hgd fun K hK => ?_
  obtain ⟨v', w', hr, h2, h3, h4⟩ := run_append_om_str (P := P) w t u o.type base e i ht hu hi hz hsize hby v bs hown s hlen hbase
  unfold Oper.wp execOp
  simp only [ho, resolve, invoke, builtin, Sem.run_bind, Sem.run_pure, Result.andThen_ok, List.map_toArray, List.map_cons, List.map_nil, hs, hx, hr]
  exact hK _ _ (h v' w' h2 h3 h4)
theorem step_append_om_str {ops : Array Oper} {o : Oper} {a : Act} {K : Act → World → Prop} {Q : Exit → Act → World → Prop} {E : Prop} (hgd : o.guard = none) (sl x : Operand) (t u : TypeId)
    (ho : o.op = .call { callee := .builtin .append, args := #[sl, x], argTypes := #[t, u] })
    (base : Nat) (e : TypeId) (i : TypeInfo) (ht : P.underlying t = some (.slice e)) (hu : P.underlying u = some .string) (hi : P.info? e = some i) (hz : i.zero = some (.int .u8 0)) (hsize : i.size = 1) (hby : i.bytes = 1)
    (v : Value) (bs : List Nat) (hs : a.eval sl = v) (hown : OM w base e v bs) (s : ByteArray) (hx : a.eval x = .string s)
    (hlen : bs.length + s.size ≤ 140737488355328) (hbase : base ≤ w.heap.size)
    (h : ∀ v' w', OM w' base e v' (bs ++ strBytes s) → w.grownBy w' v.ownBlock → (v'.ownBlock = v.ownBlock ∨ v'.ownBlock = some w.heap.size) → K (a.put o.dst v') w') :
    if Region.wanted o (yielded ops a.tmps) = true then Oper.wp P o a w K Q else E := by
  have hw : Region.wanted o (yielded ops a.tmps) = true := by simp [Region.wanted, hgd]
  rw [if_pos hw]
  obtain ⟨v', w', hr, h2, h3, h4⟩ := run_append_om_str (P := P) w t u o.type base e i ht hu hi hz hsize hby v bs hown s hlen hbase
  unfold Oper.wp execOp
  simp only [ho, resolve, invoke, builtin, Sem.run_bind, Sem.run_pure, Result.andThen_ok, List.map_toArray, List.map_cons, List.map_nil, hs, hx, hr]
  exact h v' w' h2 h3 h4
theorem wpList_append_om_lit {ops : Array Oper} {rest : List Oper} {o : Oper} {a : Act} {Q : Exit → Act → World → Prop} (hgd : o.guard = none) (s x : Operand) (t : TypeId)
    (ho : o.op = .call { callee := .builtin .append, args := #[s, x], argTypes := #[t, t] })
    (base : Nat) (e : TypeId) (i : TypeInfo) (ht : P.underlying t = some (.slice e)) (hi : P.info? e = some i) (hz : i.zero = some (.int .u8 0)) (hsize : i.size = 1) (hby : i.bytes = 1)
    (v : Value) (bs : List Nat) (n : Nat) (hs : a.eval s = v) (hown : OM w base e v bs)
    (hx : a.eval x = .slice (some ⟨w.heap.size, 0, none⟩) 1 1) (y : Int) (hy : y = (n : Int)) (hn : n < 256) (hlen : bs.length + 1 ≤ 140737488355328) (hbase : base ≤ w.heap.size)
    (h : ∀ v' w', OM w' base e v' (bs ++ [n]) → w.grownBy w' v.ownBlock → (v'.ownBlock = v.ownBlock ∨ v'.ownBlock = some (w.heap.size + 1)) → wpList P ops Q rest (a.put o.dst v') w') :
    wpList P ops Q (o :: rest) a (w.alloc (.cells #[.int .u8 y] e)) := by
  subst hy
  refine wpList_plain hgd fun K hK => ?_
  have hc : (w.alloc (.cells #[.int .u8 (n : Int)] e)).cell? ⟨w.heap.size, 0, none⟩ = some (.int .u8 (n : Int)) := by
    simp
  obtain ⟨v', w', hr, h2, h3, h4⟩ := run_append_om_byte (P := P) (w.alloc (.cells #[.int .u8 (n : Int)] e)) t o.type base e i ht hi hz hsize hby v bs (hown.alloc _) w.heap.size 1 n hn hc hlen (by simp; omega)
  unfold Oper.wp execOp
  simp only [ho, resolve, invoke, builtin, Sem.run_bind, Sem.run_pure, Result.andThen_ok, List.map_toArray, List.map_cons, List.map_nil, hs, hx, hr]
  exact hK _ _ (h v' w' h2 ((World.grownBy_alloc w _ _).trans h3) (by simpa using h4))
end
/-- a row of bytes as an object -/
def OmA (e : TypeId) (v : Value) (bs : List Nat) : Ass := fun w F => OM w 0 e v bs ∧ F = rfp v
instance stableOm {e : TypeId} {v : Value} {bs : List Nat} : Stable (OmA e v bs) where
  lt := by
    rintro w F ⟨h, rfl⟩ k hk
    exact (h.lt k hk).2
  keep := by
    rintro w w' F ⟨h, rfl⟩ _ hk
    exact ⟨h.keep hk, rfl⟩
section
variable {S : Fp} {l : List Ass} {w0 w w' : World}
theorem St.newOm [Stable (Sep l)] (h : St S l w0 w) {e : TypeId} {v : Value} {bs : List Nat} (ho : OM w' w.heap.size e v bs) (hb : Below w.heap.size w w') : St S (OmA e v bs :: l) w0 w' :=
  h.add (F := rfp v) hb ⟨ho.mono (Nat.zero_le _), rfl⟩ fun k hk => (ho.lt k hk).1
theorem St.grewOm [Stable (Sep l)] {e e' : TypeId} {v v' : Value} {bs bs' : List Nat} (h : St S (OmA e v bs :: l) w0 w) (ho : OM w' 0 e' v' bs') (hg : w.grownBy w' v.ownBlock) {n : Nat} (ha : v'.ownBlock = v.ownBlock ∨ v'.ownBlock = some n) (hn : w.heap.size ≤ n) : St S (OmA e' v' bs' :: l) w0 w' := by
  obtain ⟨F, ⟨_, rfl⟩, k⟩ := h.turn
  refine k _ _ ⟨_, ⟨ho, rfl⟩, Only.of_grown hg, fun i hi => ?_⟩
  rcases ha with e | e
  · exact .inl (e.symm.trans hi)
  · have : some n = some i := e.symm.trans hi
    injection this with this
    exact .inr (by omega)
theorem St.om {e : TypeId} {v : Value} {bs : List Nat} (h : St S (OmA e v bs :: l) w0 w) : OM w 0 e v bs := by
  obtain ⟨F, h, _⟩ := h.head
  exact h
end
end Go.Proofs.YthfoffcfbfmajaaGreatDoor
