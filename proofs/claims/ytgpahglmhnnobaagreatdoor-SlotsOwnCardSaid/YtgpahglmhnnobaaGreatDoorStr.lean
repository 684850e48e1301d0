/- Strings and bytes: what a string holds as a list of numbers; a string appended to a slice of bytes; bytes made a string. -/
import Derived.Test.YtgpahglmhnnobaaGreatDoorWriter
import Derived.Lib.AppendStr
import Derived.Laws.BytesArg
namespace Go.Proofs.YtgpahglmhnnobaaGreatDoor
open Go.RowKit
set_option linter.unusedVariables false

/-- the bytes of a string -/
def strBytes (s : ByteArray) : List Nat := s.data.toList.map UInt8.toNat
theorem strBytes_length (s : ByteArray) : (strBytes s).length = s.size := by
  unfold strBytes; rw [List.length_map, Array.length_toList]; rfl
theorem strBytes_is (s : ByteArray) : IsBytes (strBytes s) := by
  intro x hx
  simp only [strBytes, List.mem_map] at hx
  obtain ⟨b, _, rfl⟩ := hx
  exact b.toNat_lt
theorem strCells_eq (s : ByteArray) : Lib.strCells s = cells8 (strBytes s) := by
  simp [Lib.strCells, cells8, strBytes]
/-- bytes as a string -/
def strOf (bs : List Nat) : ByteArray := ⟨(bs.map UInt8.ofNat).toArray⟩
theorem strBytes_strOf {bs : List Nat} (h : IsBytes bs) : strBytes (strOf bs) = bs := by
  unfold strBytes strOf
  simp only [List.map_map]
  conv => rhs; rw [← List.map_id bs]
  refine List.map_congr_left fun x hx => ?_
  have := h x hx
  simp only [Function.comp, id, UInt8.toNat_ofNat']
  omega
theorem strOf_strBytes (s : ByteArray) : strOf (strBytes s) = s := by
  obtain ⟨⟨l⟩⟩ := s
  unfold strBytes strOf
  simp only [List.map_map]
  congr 2
  conv => rhs; rw [← List.map_id l]
  refine List.map_congr_left fun x _ => ?_
  simp [Function.comp]
theorem strOf_size (bs : List Nat) : (strOf bs).size = bs.length := by
  show (bs.map UInt8.ofNat).toArray.size = _
  simp
theorem strBytes_inj {s t : ByteArray} (h : strBytes s = strBytes t) : s = t := by rw [← strOf_strBytes s, h, strOf_strBytes]

section
variable {P : Program} (w : World)
theorem run_append_str (t u ty : TypeId) (base : Nat) (e : TypeId) (i : TypeInfo) (ht : P.underlying t = some (.slice e)) (hu : P.underlying u = some .string) (hi : P.info? e = some i) (hz : i.zero = some (.int .u8 0)) (hsize : i.size = 1) (hby : i.bytes = 1)
    (v : Value) (bs : List Nat) (hown : OB w base e v bs) (s : ByteArray) (hlen : bs.length + s.size ≤ 140737488355328) (hbase : base ≤ w.heap.size) :
    ∃ v' w', (Builtin.append_ #[t, u] ty #[v, .string s]).run P w = .ok v' w' ∧ OB w' base e v' (bs ++ strBytes s) ∧ w.grownBy w' v.ownBlock ∧ (v'.ownBlock = v.ownBlock ∨ v'.ownBlock = some w.heap.size) := by
  obtain ⟨v', w', hrun, h2, h3, h4⟩ := Lib.run_append_own_string (P := P) w base t u ty e i ht hu hi hz hsize hby v bs.length (cells8 bs) hown.2 s (by simp only [maxLen]; omega) hlen hbase
  refine ⟨v', w', hrun, ⟨hown.1.append (strBytes_is s), ?_⟩, h3, ?_⟩
  · rw [cells8_append, ← strCells_eq, List.length_append, strBytes_length]; exact h2
  rcases hown.2.2 with ⟨rfl, h0⟩ | ⟨g, cap, cur, rfl, hbg, hh, h5, h6, h7, h8⟩
  · by_cases hm : s.size = 0
    · exact .inl (by rw [h4.2 ⟨rfl, hm⟩])
    · have hr2 := run_append_nil_string (P := P) w t u ty e i (.int .u8 0) ht hu hi hz s (by omega) (by omega) (by rw [hby]; omega)
      rw [hrun] at hr2
      injection hr2 with e1 e2
      exact .inr (by rw [e1]; rfl)
  · by_cases hroom : bs.length + s.size ≤ cap
    · have hr2 := Lib.run_append_room_string (P := P) w t u ty e i ht hu hi hsize g bs.length cap cur hh s hroom (by omega)
      rw [hrun] at hr2
      injection hr2 with e1 e2
      exact .inl (by rw [e1]; rfl)
    · have hr2 := Lib.run_append_grow_string (P := P) w t u ty e i (.int .u8 0) ht hu hi hz ⟨g, 0, none⟩ bs.length cap (cells8 bs) (by rw [cells8_length, hsize]; omega) (hown.2.cells (g := g) rfl) s (by omega) (by omega)
        (by rw [hby]; exact growslice_fits (by omega) (by omega))
      rw [hrun] at hr2
      injection hr2 with e1 e2
      exact .inr (by rw [e1]; rfl)

theorem wpList_append_str {ops : Array Oper} {rest : List Oper} {o : Oper} {a : Act} {Q : Exit → Act → World → Prop} (hgd : o.guard = none) (sl x : Operand) (t u : TypeId)
    (ho : o.op = .call { callee := .builtin .append, args := #[sl, x], argTypes := #[t, u] })
    (base : Nat) (e : TypeId) (i : TypeInfo) (ht : P.underlying t = some (.slice e)) (hu : P.underlying u = some .string) (hi : P.info? e = some i) (hz : i.zero = some (.int .u8 0)) (hsize : i.size = 1) (hby : i.bytes = 1)
    (v : Value) (bs : List Nat) (hs : a.eval sl = v) (hown : OB w base e v bs) (s : ByteArray) (hx : a.eval x = .string s)
    (hlen : bs.length + s.size ≤ 140737488355328) (hbase : base ≤ w.heap.size)
    (h : ∀ v' w', OB w' base e v' (bs ++ strBytes s) → w.grownBy w' v.ownBlock → (v'.ownBlock = v.ownBlock ∨ v'.ownBlock = some w.heap.size) → wpList P ops Q rest (a.put o.dst v') w') : wpList P ops Q (o :: rest) a w := by
  refine wpList_plain hgd fun K hK => ?_
  obtain ⟨v', w', hr, h2, h3, h4⟩ := run_append_str (P := P) w t u o.type base e i ht hu hi hz hsize hby v bs hown s hlen hbase
  unfold Oper.wp execOp
  simp only [ho, resolve, invoke, builtin, Sem.run_bind, Sem.run_pure, Result.andThen_ok, List.map_toArray, List.map_cons, List.map_nil, hs, hx, hr]
  exact hK _ _ (h v' w' h2 h3 h4)

/-- bytes made a string -/
theorem run_bytes_str {B : Nat} {A : Option Addr} {bs : List Nat} (src dst e : TypeId) (c : Nat) (hs : P.underlying src = some (.slice e)) (he : P.underlying e = some (.int .u8)) (hd : P.underlying dst = some .string)
    (h : RB w B A bs) : (convert src dst (.slice A bs.length c)).run P w = .ok (.string (strOf bs)) w := by
  rcases A with _ | ad
  · have hm : bs.length = 0 := by
      rcases Nat.eq_zero_or_pos bs.length with h0 | h0
      · exact h0
      · obtain ⟨_, h, _⟩ := h.2.2 h0
        cases h
    have hn : bs = [] := List.length_eq_zero_iff.1 hm
    subst hn
    exact run_convert_bytes_nil (w := w) src e hs he _ _ dst hd
  · rcases Nat.eq_zero_or_pos bs.length with h0 | h0
    · have hn : bs = [] := List.length_eq_zero_iff.1 h0
      subst hn
      rw [run_convert_bytes_string w src dst e _ _ c hs he hd]
      have hl := run_loadCells_list (P := P) w ad [] (fun j v hj => by simp at hj)
      rw [run_bytesToString w ad _ c [] (by simpa using hl)]
      rfl
    · obtain ⟨b, off, hA, _, hc⟩ := h.all h0
      injection hA with hA
      subst hA
      have := run_convert_bytes_arg (P := P) w src e hs he b off bs.length c (bs.map fun n : Nat => (n : Int)) (by simp) (fun i hi => by
        rw [hc i hi, nth_lt hi]
        simp [List.getD_eq_getElem?_getD, List.getElem?_eq_getElem hi]) dst hd
      rw [this]
      congr 2
      unfold strOfNums strOf
      congr 2
      simp
end

set_option maxHeartbeats 400000 in
theorem Str_any (base g : Nat) (v : Value) (bs : List Nat) (s : ByteArray) (w : World) (h : Wr w base g v bs) (hl : bs.length + s.size ≤ 140737488355328) :
    Calls Tryz.prog 68 #[.pointer (some ⟨g, 0, none⟩), .string s] w (Wrote base g v (bs ++ strBytes s) w) := by
  obtain ⟨i0, hi, hz0, hz1, hz2⟩ := info_parts u8_info
  have hbase : base ≤ w.heap.size := by have := h.1.lt; have := h.2.1; omega
  obtain ⟨A0, c0, rfl, hc0, hcm0, _, _⟩ := h.2.2.form
  have hcell : w.cell? ⟨g, 0, none⟩ = some (.slice A0 bs.length c0) := by rw [h.1.cell 0]; rfl
  have H := Lib.hid h
  clear h
  go_enter Tryz.func68, Tryz.ntmps68
  go_wp2_with (at_builtin; refine wpList_append_str _ rfl _ _ 25 9 rfl base 5 i0 Tryz.underlying25 Tryz.underlying9 hi hz0 hz1 hz2 (.slice A0 bs.length c0) bs (by rfl) H.out.2.2 s (by rfl) hl hbase ?_; intro v1 w1 hown1 hg1 hat1; obtain ⟨hb1, hw1, ho1, hf1⟩ := wrote_of H.out hown1 (Grew.of hg1 hat1 (Nat.le_refl _)); obtain ⟨A1, c1, rfl, _, _, _, _⟩ := hown1.form; have hcell1 : w1.cell? ⟨g, 0, none⟩ = some (.slice A0 bs.length c0) := (by rw [hb1.cell 0]; rfl); have hfz1 := hb1.frozen 0)
  simp only [List.length_append] at hw1 ho1 hf1
  go_end0
  exact ⟨rfl, _, hw1, ho1, hf1⟩

end Go.Proofs.YtgpahglmhnnobaaGreatDoor
