/- lexer: how a law's text is opened, in the second form. -/
import Derived.Test.YtcfobagcdgnfoaaGreatDoorOpen
import Derived.Test.YtcfobagcdgnfoaaGreatDoorBulk
namespace Go.Proofs.YtcfobagcdgnfoaaGreatDoor
open Go.ChangeShapes Go.WideShapes Go.ChangeAt Go.RowKit
open Go.ChangeMaps (open_string shut_string)
set_option linter.unusedVariables false
section
variable {H : Type} {enc : TypeId × Value → H}
set_option maxRecDepth 100000 in
theorem open_lextext {w : World} {d : DataW H} {v : Value} {p : List MemPlace} {b0 : Nat} {r : Reach} (hv : Value.okWide Tryz.prog w r b0 9 v)
    (hr : ∀ m ∈ d.weights Tryz.prog 9, m ≤ reachBytes) (h : DataW.Trod enc Tryz.prog w 0 (fun _ => true) true 9 v d p) (hlt : ∀ x ∈ p, x.block < w.heap.size) (hu : Rows.uptoBulk d ≤ 1048576) :
    ∃ s : ByteArray, v = .string s ∧ s.size ≤ 1048576 := by
  obtain ⟨s, rfl, rfl, rfl, hs⟩ := open_string Tryz.underlying9 hv h
  refine ⟨s, rfl, ?_⟩
  simp only [Rows.uptoBulk] at hu
  have h2 : s.data.toList.length = s.size := by rw [Array.length_toList]; rfl
  omega
set_option maxRecDepth 100000 in
theorem open_lexany {w : World} {d : DataW H} {v : Value} {p : List MemPlace} {b0 : Nat} {r : Reach} (hv : Value.okWide Tryz.prog w r b0 9 v)
    (hr : ∀ m ∈ d.weights Tryz.prog 9, m ≤ reachBytes) (h : DataW.Trod enc Tryz.prog w 0 (fun _ => true) true 9 v d p) (hlt : ∀ x ∈ p, x.block < w.heap.size) :
    ∃ s : ByteArray, v = .string s ∧ s.size ≤ 140737488355328 := by
  obtain ⟨s, rfl, rfl, rfl, hs⟩ := open_string Tryz.underlying9 hv h
  refine ⟨s, rfl, ?_⟩
  have h1 : s.data.toList.length ≤ reachBytes := hr s.data.toList.length (by simp [DataW.weights])
  have h2 := reachBytes_lt
  have e1 : s.size = s.data.size := rfl
  have e2 : s.data.toList.length = s.data.size := Array.length_toList
  have e3 : (2 : Nat) ^ 47 = 140737488355328 := by decide
  omega
end
end Go.Proofs.YtcfobagcdgnfoaaGreatDoor
