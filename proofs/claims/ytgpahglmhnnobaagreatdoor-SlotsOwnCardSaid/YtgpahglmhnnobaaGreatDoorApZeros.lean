/- append(s, make([]byte, m)...) to a list of bytes of the call's own. No program is named here. -/
import Derived.Test.YtgpahglmhnnobaaGreatDoorSep
import Derived.Test.YtgpahglmhnnobaaGreatDoorSpoil
import Derived.Lib.AppendZerosOnto
namespace Go.Proofs.YtgpahglmhnnobaaGreatDoor
open Go.RowKit
set_option linter.unusedVariables false

theorem zero_cells (m : Nat) : (Builtin.zeroCells (Value.int .u8 0).cells m).toList = cells8 (List.replicate m 0) := by
  apply List.ext_getElem
  · simp [Builtin.zeroCells, cells8, Value.cells]
  · intro j h1 h2
    simp [Builtin.zeroCells, cells8, Value.cells, Nat.mod_one]
section
variable {P : Program} (w : World)
theorem run_append_room_zeros8 (t tn ty e : TypeId) (i : TypeInfo) (kq kn : IntKind) (ht : P.underlying t = some (.slice e)) (htn : P.underlying tn = some (.int kn)) (hi : P.info? e = some i) (hz : i.zero = some (.int .u8 0)) (hsize : i.size = 1) (hby : i.bytes = 1)
    (g sLen sCap : Nat) (cur : Array Value) (hg : w.heap[g]? = some (.cells cur e (0, 0))) (m : Nat) (h0 : 0 < m) (h48 : m ≤ 281474976710656) (hroom : sLen + m ≤ sCap) (hfit : sLen + m ≤ cur.size) :
    (Builtin.append_ #[t, tn] ty #[.slice (some ⟨g, 0, none⟩) sLen sCap, .int kq m]).run P w =
      .ok (.slice (some ⟨g, 0, none⟩) (sLen + m) sCap) (w.setRow g (cur.toList.take sLen ++ cells8 (List.replicate m 0) ++ cur.toList.drop (sLen + m)).toArray) := by
  have hl : (cells8 (List.replicate m 0)).length = m := by rw [cells8_length, List.length_replicate]
  have hst := run_storeCells_at P g sLen e (cells8 (List.replicate m 0)) 0 cur w hg (by rw [hl]; simpa using hfit) (cells8_oneCell _)
  simp only [Nat.add_zero, hl] at hst
  have hk : m ≠ 0 := by omega
  have hw : IntKind.i64.wrap (m : Int) = m := by rw [IntKind.wrap_i64]; omega
  have hneg : ¬ ((m : Int) < 0) := by omega
  have h48i : ¬ (281474976710656 < (m : Int)) := by omega
  simp [Builtin.append_, run_underlying ht, run_underlying htn, sizeOf, typeInfo, zeroValue, hi, hz, hsize, hby, asInt, asIntOf, hw, hneg, hk, h48i, hroom, Addr.add_lit, zero_cells, hst]
theorem run_append_zeros8 (t tn ty : TypeId) (base : Nat) (e : TypeId) (i : TypeInfo) (kq kn : IntKind) (ht : P.underlying t = some (.slice e)) (htn : P.underlying tn = some (.int kn)) (hi : P.info? e = some i) (hz : i.zero = some (.int .u8 0)) (hsize : i.size = 1) (hby : i.bytes = 1)
    (v : Value) (bs : List Nat) (hown : OB w base e v bs) (m : Nat) (h0 : 0 < m) (hlen : bs.length + m ≤ 140737488355328) (hbase : base ≤ w.heap.size) :
    ∃ v' w', (Builtin.append_ #[t, tn] ty #[v, .int kq m]).run P w = .ok v' w' ∧ OB w' base e v' (bs ++ List.replicate m 0) ∧ w.grownBy w' v.ownBlock ∧ (v'.ownBlock = v.ownBlock ∨ v'.ownBlock = some w.heap.size) := by
  have hl : (cells8 (List.replicate m 0)).length = m := by rw [cells8_length, List.length_replicate]
  have hbz : IsBytes (List.replicate m 0) := fun x hx => by rw [List.eq_of_mem_replicate hx]; omega
  have hcat : cells8 (bs ++ List.replicate m 0) = cells8 bs ++ cells8 (List.replicate m 0) := cells8_append _ _
  have hlb : (cells8 bs).length = bs.length := cells8_length _
  have grown : ∀ (old : Nat), old < bs.length + m → ∀ (row : Option Nat),
      (w.drew.alloc (.cells ((cells8 bs).toArray ++ Builtin.zeroCells (Value.int .u8 0).cells m ++ Builtin.zeroCells (Value.int .u8 0).cells (grownCap w (bs.length + m) old e - (bs.length + m))) e)).ownsRow base e 1
        (.slice (some ⟨w.heap.size, 0, none⟩) (bs.length + m) (grownCap w (bs.length + m) old e)) (bs.length + m) (cells8 bs ++ cells8 (List.replicate m 0)) ∧
      w.grownBy (w.drew.alloc (.cells ((cells8 bs).toArray ++ Builtin.zeroCells (Value.int .u8 0).cells m ++ Builtin.zeroCells (Value.int .u8 0).cells (grownCap w (bs.length + m) old e - (bs.length + m))) e)) row := by
    intro old ho row
    have hge := grownCap_ge w (bs.length + m) old e
    have hcm : grownCap w (bs.length + m) old e ≤ maxLen := grownCap_le_maxLen w (bs.length + m) old e (by unfold maxLen; omega)
    refine ⟨⟨by rw [List.length_append, hlb, hl, Nat.mul_one], .inr ⟨w.heap.size, _, _, rfl, hbase, heap_alloc_new w.drew _, hge, hcm, ?_, ?_⟩⟩, ⟨rfl, rfl, rfl, by simp, fun k hk _ => heap_alloc_old w.drew _ hk⟩⟩
    · simp only [Array.size_append, List.size_toArray, size_zeroCells, hlb]
      simp [Value.cells]
      omega
    · simp only [Array.toList_append, zero_cells, List.append_assoc, Nat.mul_one]
      rw [← List.append_assoc, show bs.length + m = (cells8 bs ++ cells8 (List.replicate m 0)).length from by rw [List.length_append, hlb, hl]]
      exact List.take_left
  rcases hown.2.2 with ⟨rfl, hn⟩ | ⟨g, cap, cur, rfl, hbg, hg, hnc, hcm, hcs, htake⟩
  · have hx : bs = [] := List.eq_nil_of_length_eq_zero hn
    subst hx
    have hr := Lib.run_append_nil_zeros (P := P) w t tn ty e i (.int .u8 0) kq kn ht htn hi hz m h0 (by omega) (by omega) (by rw [hby]; omega)
    have hgr := grown 0 (by simpa using h0) (Value.ownBlock (.slice none 0 0))
    simp only [List.length_nil, Nat.zero_add, List.nil_append, cells8, List.map_nil, Array.empty_append] at hgr ⊢
    refine ⟨_, _, hr, ⟨hbz, ?_⟩, hgr.2, .inr rfl⟩
    rw [List.length_replicate]
    exact hgr.1
  · by_cases hroom : bs.length + m ≤ cap
    · have hfit : bs.length + m ≤ cur.size := by rw [hcs]; omega
      have hr := run_append_room_zeros8 (P := P) w t tn ty e i kq kn ht htn hi hz hsize hby g bs.length cap cur hg m h0 (by omega) hroom hfit
      refine ⟨_, _, hr, ⟨hown.1.append hbz, by rw [hcat, List.length_append, hlb, hl, List.length_append, List.length_replicate, Nat.mul_one], .inr ⟨g, cap, _, by rw [List.length_append, List.length_replicate], hbg, setRow_heap w g cur _ e _ hg, by rw [List.length_append, List.length_replicate]; exact hroom, hcm, ?_, ?_⟩⟩, ⟨rfl, rfl, rfl, by simp, fun k _ hk => setRow_other w g k _ (fun e => hk (by simp [Value.ownBlock, e]))⟩, .inl rfl⟩
      · simp only [List.size_toArray, List.length_append, List.length_take, List.length_drop, Array.length_toList, hl]
        omega
      · rw [Nat.mul_one] at htake
        rw [hcat, htake, List.length_append, List.length_replicate, Nat.mul_one, show bs.length + m = (cells8 bs ++ cells8 (List.replicate m 0)).length from by rw [List.length_append, hlb, hl]]
        exact List.take_left
    · have hr := Lib.run_append_grow_zeros (P := P) w t tn ty e i (.int .u8 0) kq kn ht htn hi hz (some ⟨g, 0, none⟩) bs.length cap (cells8 bs) (run_firstCells_some w.drew i.size bs.length ⟨g, 0, none⟩ bs.length cap (cells8 bs) (by rw [hlb, hsize, Nat.mul_one]) (by simpa using hown.2.cells (g := g) rfl)) m h0 (by omega) (by omega) (by omega) (by rw [hby]; omega) (by rw [hby]; exact growslice_fits (by omega) (by omega))
      have hgr := grown cap (by omega) (Value.ownBlock (.slice (some ⟨g, 0, none⟩) bs.length cap))
      refine ⟨_, _, hr, ⟨hown.1.append hbz, ?_⟩, hgr.2, .inr rfl⟩
      rw [hcat, List.length_append, List.length_replicate]
      exact hgr.1
theorem wpList_append_zeros8 {ops : Array Oper} {rest : List Oper} {o : Oper} {a : Act} {Q : Exit → Act → World → Prop} (hgd : o.guard = none) (s x : Operand) (t tn : TypeId)
    (ho : o.op = .call { callee := .builtin .append, args := #[s, x], argTypes := #[t, tn] })
    (base : Nat) (e : TypeId) (i : TypeInfo) (kq kn : IntKind) (ht : P.underlying t = some (.slice e)) (htn : P.underlying tn = some (.int kn)) (hi : P.info? e = some i) (hz : i.zero = some (.int .u8 0)) (hsize : i.size = 1) (hby : i.bytes = 1)
    (v : Value) (bs : List Nat) (hs : a.eval s = v) (hown : OB w base e v bs) (m : Nat) (hx : a.eval x = .int kq m) (h0 : 0 < m) (hlen : bs.length + m ≤ 140737488355328) (hbase : base ≤ w.heap.size)
    (h : ∀ v' w', OB w' base e v' (bs ++ List.replicate m 0) → w.grownBy w' v.ownBlock → (v'.ownBlock = v.ownBlock ∨ v'.ownBlock = some w.heap.size) → wpList P ops Q rest (a.put o.dst v') w') :
    wpList P ops Q (o :: rest) a w := by
  obtain ⟨v', w', hrun, h2, h3, h4⟩ := run_append_zeros8 (P := P) w t tn o.type base e i kq kn ht htn hi hz hsize hby v bs hown m h0 hlen hbase
  exact Lib.wpList_append_run w hgd s x t tn ho v (.int kq m) hs hx v' w' hrun (h v' w' h2 h3 h4)
end
/-! ### a store into one's own bytes -/
theorem row_storeB {w : World} {base : Nat} {e : TypeId} {A : Option Addr} {n cap : Nat} {xs : List Value} (h : w.ownsRow base e 1 (.slice A n cap) n xs) {k : Nat} (hk : k < n) (u : Value) :
    ∃ g, A = some ⟨g, 0, none⟩ ∧ (∃ u0, w.cell? ⟨g, k, none⟩ = some u0) ∧ w.frozen? ⟨g, k, none⟩ = false ∧ (w.setCell ⟨g, k, none⟩ u).ownsRow base e 1 (.slice A n cap) n (xs.set k u) ∧ w.grownBy (w.setCell ⟨g, k, none⟩ u) (some g) := by
  obtain ⟨g, cap', hv, _, _⟩ := h.form (by omega)
  simp only [Value.slice.injEq] at hv
  obtain ⟨rfl, -, -⟩ := hv
  have hl : xs.length = n := by rw [h.1, Nat.mul_one]
  have hc := (h.cells (g := g) rfl) k _ (List.getElem?_eq_getElem (by omega))
  rw [add_none, Nat.zero_add] at hc
  have hs := h.stored k u
  exact ⟨g, rfl, ⟨_, hc⟩, h.frozenAt k, hs.1, hs.2⟩
theorem OB.storeAtB {w : World} {base : Nat} {e : TypeId} {A : Option Addr} {n cap : Nat} {L : List Nat} (h : OB w base e (.slice A n cap) L) (hn : L.length = n) {k : Nat} (hk : k < n) (m : Nat) (hm : m < 256) :
    ∃ g, A = some ⟨g, 0, none⟩ ∧ (∃ u0, w.cell? ⟨g, k, none⟩ = some u0) ∧ w.frozen? ⟨g, k, none⟩ = false ∧ OB (w.setCell ⟨g, k, none⟩ (.int .u8 (m : Int))) base e (.slice A n cap) (L.set k m) ∧ w.grownBy (w.setCell ⟨g, k, none⟩ (.int .u8 (m : Int))) (some g) := by
  have h2 := h.2
  rw [hn] at h2
  obtain ⟨g, hA, hc, hf, ho, hg⟩ := row_storeB h2 hk (.int .u8 (m : Int))
  refine ⟨g, hA, hc, hf, ⟨fun x hx => ?_, ?_⟩, hg⟩
  · rcases List.mem_or_eq_of_mem_set hx with h3 | h3
    · exact h.1 x h3
    · omega
  · rw [List.length_set, hn, ← set_cells8]; exact ho
theorem St.storeObB {S : Fp} {l : List Ass} [Stable (Sep l)] {w0 w : World} {e : TypeId} {A : Option Addr} {n cap : Nat} {L : List Nat} (h : St S (ObA e (.slice A n cap) L :: l) w0 w) (hn : L.length = n) {k : Nat} (hk : k < n) (m : Nat) (hm : m < 256) :
    ∃ g, A = some ⟨g, 0, none⟩ ∧ (∃ u0, w.cell? ⟨g, k, none⟩ = some u0) ∧ w.frozen? ⟨g, k, none⟩ = false ∧ St S (ObA e (.slice A n cap) (L.set k m) :: l) w0 (w.setCell ⟨g, k, none⟩ (.int .u8 (m : Int))) := by
  obtain ⟨g, rfl, hc, hf, ho, hg⟩ := h.ob.storeAtB hn hk m hm
  exact ⟨g, rfl, hc, hf, h.grewOb ho hg (.inl rfl) (Nat.le_refl _)⟩
end Go.Proofs.YtgpahglmhnnobaaGreatDoor
