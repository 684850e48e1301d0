/- How a law's arguments are opened: a slice of bytes that came in reads as a list of bytes, within the form's own reach. No program is named here. -/
import Derived.Test.YtgpahglmhnnobaaGreatDoorBase
import Derived.SizedLaws
namespace Go.Proofs.YtgpahglmhnnobaaGreatDoor
open Go.ChangeShapes Go.WideShapes Go.ChangeAt Go.RowKit
set_option linter.unusedVariables false

theorem cell_lt {w : World} {a : Addr} {v : Value} (h : w.cell? a = some v) : a.block < w.heap.size := by
  rcases Nat.lt_or_ge a.block w.heap.size with hlt | hge
  · exact hlt
  · rw [World.cell?, Array.getElem?_eq_none hge] at h
    simp at h

theorem lits_length {H : Type} (k : IntKind) (zs : List Int) : (lits (H := H) k zs).length = zs.length := by simp [lits]

section
variable {H : Type} {enc : TypeId × Value → H} {P : Program}
/-- the form's reach, of argument j -/
theorem reach_at {ts : List TypeId} {ds : List (DataW H)} (h : (DataW.weightsEach P ts ds).all (· ≤ reachBytes) = true) {j : Nat} {t : TypeId} {d : DataW H} (ht : ts[j]? = some t) (hd : ds[j]? = some d) : ∀ n ∈ d.weights P t, n ≤ reachBytes := by
  intro n hn
  have := List.all_eq_true.1 h _ (DataW.weights_mem_each ht hd n hn)
  simpa using this

theorem open_bytes {w : World} {t e : TypeId} {A : Option Addr} {n cap : Nat} {d : DataW H} {p : List MemPlace} (ht : P.underlying t = some (.slice e)) (he : P.underlying e = some (.int .u8)) (hc : P.cellsOf e = 1) (hby : P.bytesOf e = 1)
    (hr : ∀ m ∈ d.weights P t, m ≤ reachBytes) (h : DataW.Trod enc P w 0 (fun _ => true) true t (.slice A n cap) d p) :
    ∃ bs, n = bs.length ∧ RB w w.heap.size A bs ∧ bs.length ≤ cap ∧ cap ≤ 140737488351232 := by
  obtain ⟨fuel, hf⟩ := h
  rcases open_ints ht he hc hf with ⟨hcs, _⟩ | ⟨x, l, c, zs, hcs, _, hl, hm, hz, hx, hcell, hwz⟩
  · simp [Value.cells] at hcs
    obtain ⟨rfl, rfl, rfl⟩ := hcs
    exact ⟨[], rfl, RB.none_, Nat.le_refl _, by omega⟩
  · simp [Value.cells] at hcs
    obtain ⟨rfl, rfl, rfl⟩ := hcs
    simp only [Prod.mk.injEq] at hx
    obtain ⟨rfl, rfl⟩ := hx
    simp only [if_true] at hz
    have hcap : cap ≤ 140737488351232 := by
      have := hr ((lits (H := H) .u8 (zs.take n)).length + (lits (H := H) .u8 (zs.drop n)).length) (by simp [DataW.weights, ht, hby])
      rw [lits_length, lits_length] at this
      simp only [List.length_take, List.length_drop, reachBytes] at this
      omega
    have hn : ((zs.take n).map Int.toNat).length = n := by simp; omega
    have hz0 : ∀ i, 0 ≤ zs.getD i 0 ∧ zs.getD i 0 ≤ 255 := by
      intro i
      rcases Nat.lt_or_ge i zs.length with hi | hi
      · have := bounds_u8 (hwz (zs.getD i 0) (by simp [List.getD_eq_getElem?_getD, List.getElem?_eq_getElem hi]))
        omega
      · simp [List.getD_eq_getElem?_getD, List.getElem?_eq_none hi]
    refine ⟨(zs.take n).map Int.toNat, hn.symm, ?_, by omega, hcap⟩
    refine ⟨?_, ?_, ?_⟩
    · intro y hy
      simp only [List.mem_map] at hy
      obtain ⟨z, hz, rfl⟩ := hy
      have := bounds_u8 (hwz z (List.mem_of_mem_take hz))
      omega
    · rw [hn, cells8_length, hn]; simp
    · intro h0
      rw [hn] at h0
      refine ⟨x, rfl, ?_, fun j u hj => ?_⟩
      · have := cell_lt (hcell 0 (by omega))
        rwa [block_of_add] at this
      · have hjn : j < n := by
          have := (List.getElem?_eq_some_iff.1 hj).1
          rw [cells8_length, hn] at this; exact this
        rw [hcell j (by omega)]
        have hj' : j < zs.length := by omega
        have h1 := hz0 j
        simp only [cells8, List.getElem?_map, List.getElem?_take_of_lt hjn, List.getElem?_eq_getElem hj', Option.map_some, Option.some.injEq] at hj
        rw [← hj]
        simp only [List.getD_eq_getElem?_getD, List.getElem?_eq_getElem hj', Option.getD_some] at h1 ⊢
        congr 2
        omega
end

end Go.Proofs.YtgpahglmhnnobaaGreatDoor
