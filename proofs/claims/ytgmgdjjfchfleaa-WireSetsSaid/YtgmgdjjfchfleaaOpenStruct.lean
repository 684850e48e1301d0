/- How the law's struct arguments are opened. -/
import Derived.Test.YtgmgdjjfchfleaaProg
import Derived.Test.YtgmgdjjfchfleaaOpen
import Derived.Lib.SmallJoins
namespace Go.Proofs.Ytgmgdjjfchfleaa
open Go.ChangeShapes Go.WideShapes Go.ChangeAt Go.RowKit Go.Joins
set_option linter.unusedVariables false

section
variable {H : Type} {enc : TypeId × Value → H}
theorem cells_setArg : Try.prog.cellsOf 33 = 4 := by kernel_rfl
theorem ones_setArg {w : World} {d : DataW H} {v : Value} {p : List MemPlace} {b0 : Nat} {r : Reach} (hv : Value.okWide Try.prog w r b0 33 v)
    (hr : ∀ m ∈ d.weights Try.prog 33, m ≤ reachBytes) (h : DataW.Trod enc Try.prog w 0 (fun _ => true) true 33 v d p) (hlt : ∀ x ∈ p, x.block < w.heap.size) :
    ∃ (A : Option Addr) (c : Nat) (bs : List Nat) (at_ width n : Int), v = .agg #[.slice A bs.length c, .int .i64 at_, .int .i64 width, .int .u64 n] ∧ (RB w w.heap.size A bs ∧ bs.length ≤ c ∧ c ≤ 140737488351232) ∧
      (-9223372036854775808 ≤ at_ ∧ at_ ≤ 9223372036854775807) ∧ (-9223372036854775808 ≤ width ∧ width ≤ 9223372036854775807) ∧ (0 ≤ n ∧ n ≤ 18446744073709551615) := by
  obtain ⟨v0, v1, v2, v3, y0, y1, y2, y3, m, rfl, rfl, rfl, h0, h1, h2, h3⟩ := open_agg4 Try.underlying33 (by kernel_rfl) cells_setArg hv h
  obtain ⟨A, l, c, hs⟩ := slice_form Try.underlying22 h0
  simp only [List.cons.injEq, and_true] at hs
  subst hs
  obtain ⟨bs, rfl, hb⟩ := open_bytes (d := y0.1) (p := y0.2) Try.underlying22 Try.underlying5 (by kernel_rfl) (by kernel_rfl)
    (fun x hx => hr x (by
      simp only [DataW.weights, Try.underlying33]
      simp only [List.map_cons, DataW.weightsEach, List.mem_append]
      exact .inl hx)) ⟨m, h0⟩
  obtain ⟨a, e1, _, wa⟩ := DataW.trod_int Try.underlying3 h1
  obtain ⟨b, e2, _, wb⟩ := DataW.trod_int Try.underlying3 h2
  obtain ⟨n, e3, _, wn⟩ := DataW.trod_int Try.underlying24 h3
  simp only [List.cons.injEq, and_true] at e1 e2 e3
  subst e1 e2 e3
  exact ⟨A, c, bs, a, b, n, rfl, hb, bounds_i64 wa, bounds_i64 wb, bounds_u64 wn⟩
end

end Go.Proofs.Ytgmgdjjfchfleaa
