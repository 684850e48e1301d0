/- cell: how a law's arguments are opened. -/
import Derived.Test.YthfoffcfbfmajaaGreatDoorValOpen
import Derived.Test.YthfoffcfbfmajaaGreatDoorBulk
namespace Go.Proofs.YthfoffcfbfmajaaGreatDoor
open Go.ChangeShapes Go.WideShapes Go.ChangeAt Go.RowKit
open Go.ChangeMaps (open_string shut_string)
set_option linter.unusedVariables false
section
variable {H : Type} {enc : TypeId × Value → H}
set_option maxRecDepth 100000 in
theorem open_celltext {w : World} {d : DataW H} {v : Value} {p : List MemPlace} {b0 : Nat} {r : Reach} (hv : Value.okWide Tryz.prog w r b0 9 v)
    (hr : ∀ m ∈ d.weights Tryz.prog 9, m ≤ reachBytes) (h : DataW.Trod enc Tryz.prog w 0 (fun _ => true) true 9 v d p) (hlt : ∀ x ∈ p, x.block < w.heap.size) (hu : Rows.uptoBulk d ≤ 1048576) :
    ∃ s : ByteArray, v = .string s ∧ s.size ≤ 1048576 := by
  obtain ⟨s, rfl, rfl, rfl, hs⟩ := open_string Tryz.underlying9 hv h
  refine ⟨s, rfl, ?_⟩
  simp only [Rows.uptoBulk] at hu
  have h2 : s.data.toList.length = s.size := by rw [Array.length_toList]; rfl
  omega
end
end Go.Proofs.YthfoffcfbfmajaaGreatDoor
