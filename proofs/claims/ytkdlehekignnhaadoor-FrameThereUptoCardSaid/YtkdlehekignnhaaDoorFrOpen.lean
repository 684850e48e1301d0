/- How a frame that comes in is opened. -/
import Derived.Test.YtkdlehekignnhaaDoorProg
import Derived.Test.YtkdlehekignnhaaDoorOpen
import Derived.Lib.SmallJoins
namespace Go.Proofs.YtkdlehekignnhaaDoor
open Go.ChangeShapes Go.WideShapes Go.ChangeAt Go.RowKit Go.Joins
set_option linter.unusedVariables false

section
variable {H : Type} {enc : TypeId × Value → H}
theorem cells_frame : Tryd.prog.cellsOf 25 = 2 := by kernel_rfl
theorem open_frame {w : World} {d : DataW H} {v : Value} {p : List MemPlace} {b0 : Nat} {r : Reach} (hv : Value.okWide Tryd.prog w r b0 25 v)
    (hr : ∀ m ∈ d.weights Tryd.prog 25, m ≤ reachBytes) (h : DataW.Trod enc Tryd.prog w 0 (fun _ => true) true 25 v d p) (hlt : ∀ x ∈ p, x.block < w.heap.size) :
    ∃ (t : Int) (A : Option Addr) (c : Nat) (bs : List Nat), v = .agg #[.int .i64 t, .slice A bs.length c] ∧ (-9223372036854775808 ≤ t ∧ t ≤ 9223372036854775807) ∧ (RB w w.heap.size A bs ∧ bs.length ≤ c ∧ c ≤ 140737488351232) := by
  obtain ⟨v0, v1, y0, y1, m, rfl, rfl, rfl, h0, h1⟩ := open_agg2 Tryd.underlying25 (by kernel_rfl) cells_frame hv h
  obtain ⟨A, l, c, hs⟩ := slice_form Tryd.underlying23 h1
  simp only [List.cons.injEq, and_true] at hs
  subst hs
  obtain ⟨bs, rfl, hb⟩ := open_bytes (d := y1.1) (p := y1.2) Tryd.underlying23 Tryd.underlying5 (by kernel_rfl) (by kernel_rfl)
    (fun x hx => hr x (by
      simp only [DataW.weights, Tryd.underlying25]
      simp only [List.map_cons, DataW.weightsEach, List.mem_append]
      exact .inr (.inl hx))) ⟨m, h1⟩
  obtain ⟨a, e1, _, wa⟩ := DataW.trod_int Tryd.underlying3 h0
  simp only [List.cons.injEq, and_true] at e1
  subst e1
  exact ⟨a, A, c, bs, rfl, bounds_i64 wa, hb⟩
end

end Go.Proofs.YtkdlehekignnhaaDoor
