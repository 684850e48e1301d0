/- cell: how CellGrows' text is opened. -/
import Derived.Test.YthfoffcfbfmajaaGreatDoorCeOpen
namespace Go.Proofs.YthfoffcfbfmajaaGreatDoor
open Go.ChangeShapes Go.WideShapes Go.ChangeAt Go.RowKit
open Go.ChangeMaps (open_string shut_string)
set_option linter.unusedVariables false
section
variable {H : Type} {enc : TypeId × Value → H}
set_option maxRecDepth 100000 in
theorem open_growtext {w : World} {d : DataW H} {v : Value} {p : List MemPlace} {b0 : Nat} {r : Reach} (hv : Value.okWide Tryz.prog w r b0 9 v)
    (hr : ∀ m ∈ d.weights Tryz.prog 9, m ≤ reachBytes) (h : DataW.Trod enc Tryz.prog w 0 (fun _ => true) true 9 v d p) (hlt : ∀ x ∈ p, x.block < w.heap.size) :
    ∃ s : ByteArray, v = .string s ∧ s.size ≤ 140737488351232 := by
  obtain ⟨s, rfl, rfl, rfl, hs⟩ := open_string Tryz.underlying9 hv h
  refine ⟨s, rfl, ?_⟩
  have := hr s.data.toList.length (by simp [DataW.weights])
  simp only [reachBytes] at this
  have h2 : s.data.toList.length = s.size := by rw [Array.length_toList]; rfl
  omega
end
end Go.Proofs.YthfoffcfbfmajaaGreatDoor
