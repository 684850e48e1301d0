/- How a node's record is opened. -/
import Derived.Test.YtmiiogailnjfpaaRcOpen
import Derived.SliceStrings
namespace Go.Proofs.Ytmiiogailnjfpaa
open Go.ChangeShapes Go.WideShapes Go.ChangeAt Go.RowKit
set_option linter.unusedVariables false

section
variable {H : Type} {enc : TypeId × Value → H} {P : Program}
theorem open_intsC {w : World} {t e : TypeId} {fuel : Nat} {v : Value} {y : DataW H × List MemPlace} (ht : P.underlying t = some (.slice e)) (he : P.underlying e = some (.int .i64)) (hc : P.cellsOf e = 1) (hby : P.bytesOf e = 8)
    (hr : ∀ m ∈ y.1.weights P t, m ≤ reachBytes) (h : DataW.trod enc P w 0 (fun _ => true) true fuel t [v] = some y) :
    ∃ (A : Option Addr) (ns : List Int) (c : Nat), v = .slice A ns.length c ∧ RL ivl w w.heap.size A ns ∧ (∀ x ∈ ns, -9223372036854775808 ≤ x ∧ x ≤ 9223372036854775807) ∧ ns.length ≤ c ∧ c * 8 ≤ 140737488351232 := by
  rcases open_ints ht he hc h with ⟨hcs, _⟩ | ⟨x, l, c, zs, hcs, _, hl, hm, hz, hx, hcell, hwz⟩
  · simp only [List.cons.injEq, and_true] at hcs
    subst hcs
    exact ⟨none, [], 0, rfl, RL.empty _ _ _ _, (fun x hx => by cases hx), Nat.le_refl _, by omega⟩
  · simp only [List.cons.injEq, and_true] at hcs
    subst hcs
    simp only [if_true] at hz
    have hcap : c * 8 ≤ 140737488351232 := by
      have := hr (((lits (H := H) .i64 (zs.take l)).length + (lits (H := H) .i64 (zs.drop l)).length) * 8) (by rw [hx]; simp [DataW.weights, ht, hby])
      rw [lits_length, lits_length] at this
      simp only [List.length_take, List.length_drop, reachBytes] at this
      omega
    have hn : (zs.take l).length = l := by rw [List.length_take]; omega
    refine ⟨some x, zs.take l, c, by rw [hn], ⟨⟨by simp, fun h0 => ?_⟩, fun z _ => ivl_ok z⟩, fun z hz' => bounds_i64 (hwz z (List.mem_of_mem_take hz')), by rw [hn]; omega, hcap⟩
    rw [hn] at h0
    refine ⟨x, rfl, ?_, fun j u hj => ?_⟩
    · have := cell_lt (hcell 0 (by omega))
      rwa [block_of_add] at this
    · have hjn : j < l := by
        have := (List.getElem?_eq_some_iff.1 hj).1
        rw [List.length_map, hn] at this; exact this
      rw [hcell j (by omega)]
      have hj' : j < zs.length := by omega
      simp only [List.getElem?_map, List.getElem?_take_of_lt hjn, List.getElem?_eq_getElem hj', Option.map_some, Option.some.injEq] at hj
      rw [← hj]
      simp [List.getD_eq_getElem?_getD, List.getElem?_eq_getElem hj']

end
section
variable {H : Type} {enc : TypeId × Value → H}
end
end Go.Proofs.Ytmiiogailnjfpaa
