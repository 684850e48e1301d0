/- How the laws' records are opened. -/
import Derived.Test.YtpoaokkmmoeekaaRcPureRelA
import Derived.Test.YtpoaokkmmoeekaaRcPropF
import Derived.Test.YtpoaokkmmoeekaaOpen
import Derived.SliceStrings
namespace Go.Proofs.Ytpoaokkmmoeekaa
open Go.ChangeShapes Go.WideShapes Go.ChangeAt Go.RowKit
set_option linter.unusedVariables false

theorem isI_of {a : Int} (h : -9223372036854775808 ≤ a ∧ a ≤ 9223372036854775807) : isI a := ⟨h.1, by omega⟩
section
variable {H : Type} {enc : TypeId × Value → H}
theorem one_int : Try.prog.cellsOf 3 = 1 := by kernel_rfl
theorem one_i64 : Try.prog.cellsOf 2 = 1 := by kernel_rfl
theorem one_bool : Try.prog.cellsOf 4 = 1 := by kernel_rfl
theorem one_ints : Try.prog.cellsOf 22 = 1 := by kernel_rfl
theorem cells_link : Try.prog.cellsOf 42 = 7 := by kernel_rfl
theorem cells_rel : Try.prog.cellsOf 44 = 9 := by kernel_rfl
theorem cells_prop : Try.prog.cellsOf 53 = 6 := by kernel_rfl
theorem cells_node : Try.prog.cellsOf 24 = 3 := by kernel_rfl

set_option maxRecDepth 100000 in
theorem open_rel {w : World} {d : DataW H} {v : Value} {p : List MemPlace} {b0 : Nat} {r : Reach} (hv : Value.okWide Try.prog w r b0 44 v)
    (hr : ∀ m ∈ d.weights Try.prog 44, m ≤ reachBytes) (h : DataW.Trod enc Try.prog w 0 (fun _ => true) true 44 v d p) (hlt : ∀ x ∈ p, x.block < w.heap.size) :
    ∃ x : RelC, v = .agg #[.bool x.lv, .int .i64 x.fr, .int .i64 x.to, .int .i64 x.fp, .int .i64 x.tp, .int .i64 x.fn, .int .i64 x.tn, .int .i64 x.ty, .int .i64 x.pr] ∧ RelI x := by
  have hs := Try.underlying44
  obtain ⟨cs, rfl, hsz⟩ := okWide_struct hs hv
  obtain ⟨l⟩ := cs
  have hl : l.length = 9 := by have := hsz.trans cells_rel; simpa using this
  obtain ⟨fuel, hf⟩ := h
  obtain ⟨ys, n, _, hx, _, hlen, hg⟩ := DataW.trod_struct hs hf
  obtain ⟨k0, k1, k2, k3, k4, k5, k6, k7, k8, rfl⟩ : ∃ k0 k1 k2 k3 k4 k5 k6 k7 k8, l = [k0, k1, k2, k3, k4, k5, k6, k7, k8] := by
    rcases l with _ | ⟨c0, _ | ⟨c1, _ | ⟨c2, _ | ⟨c3, _ | ⟨c4, _ | ⟨c5, _ | ⟨c6, _ | ⟨c7, _ | ⟨c8, _ | ⟨c9, r⟩⟩⟩⟩⟩⟩⟩⟩⟩⟩ <;> simp at hl
    exact ⟨c0, c1, c2, c3, c4, c5, c6, c7, c8, rfl⟩
  have hl3 : ys.length = 3 := hlen
  obtain ⟨y0, y1, y2, rfl⟩ : ∃ y0 y1 y2, ys = [y0, y1, y2] := by
    rcases ys with _ | ⟨c0, _ | ⟨c1, _ | ⟨c2, _ | ⟨c3, r⟩⟩⟩⟩ <;> simp at hl3
    exact ⟨c0, c1, c2, rfl⟩
  have g0 := hg 0 _ rfl
  have g1 := hg 1 _ rfl
  have g2 := hg 2 _ rfl
  have g0 : DataW.trod enc Try.prog w 0 (fun _ => true) true n 42 [k0, k1, k2, k3, k4, k5, k6] = some y0 := by simpa [Value.cells, cells_link] using g0
  have g1 : DataW.trod enc Try.prog w 0 (fun _ => true) true n 3 [k7] = some y1 := by simpa [Value.cells, one_int] using g1
  have g2 : DataW.trod enc Try.prog w 0 (fun _ => true) true n 3 [k8] = some y2 := by simpa [Value.cells, one_int] using g2
  obtain ⟨a7, e7, _, w7⟩ := DataW.trod_int Try.underlying3 g1
  obtain ⟨a8, e8, _, w8⟩ := DataW.trod_int Try.underlying3 g2
  obtain ⟨zs, n', _, hx', _, hlen', hg'⟩ := DataW.trod_struct Try.underlying42 g0
  have hl7 : zs.length = 7 := hlen'
  obtain ⟨z0, z1, z2, z3, z4, z5, z6, rfl⟩ : ∃ z0 z1 z2 z3 z4 z5 z6, zs = [z0, z1, z2, z3, z4, z5, z6] := by
    rcases zs with _ | ⟨c0, _ | ⟨c1, _ | ⟨c2, _ | ⟨c3, _ | ⟨c4, _ | ⟨c5, _ | ⟨c6, _ | ⟨c7, r⟩⟩⟩⟩⟩⟩⟩⟩ <;> simp at hl7
    exact ⟨c0, c1, c2, c3, c4, c5, c6, rfl⟩
  have q0 := hg' 0 _ rfl
  have q1 := hg' 1 _ rfl
  have q2 := hg' 2 _ rfl
  have q3 := hg' 3 _ rfl
  have q4 := hg' 4 _ rfl
  have q5 := hg' 5 _ rfl
  have q6 := hg' 6 _ rfl
  have q0 : DataW.trod enc Try.prog w 0 (fun _ => true) true n' 4 [k0] = some z0 := by simpa [Value.cells, one_bool] using q0
  obtain ⟨a0, e0, _⟩ := DataW.trod_bool Try.underlying4 q0
  have q1 : DataW.trod enc Try.prog w 0 (fun _ => true) true n' 3 [k1] = some z1 := by simpa [Value.cells, one_int] using q1
  obtain ⟨a1, e1, _, w1⟩ := DataW.trod_int Try.underlying3 q1
  have q2 : DataW.trod enc Try.prog w 0 (fun _ => true) true n' 3 [k2] = some z2 := by simpa [Value.cells, one_int] using q2
  obtain ⟨a2, e2, _, w2⟩ := DataW.trod_int Try.underlying3 q2
  have q3 : DataW.trod enc Try.prog w 0 (fun _ => true) true n' 3 [k3] = some z3 := by simpa [Value.cells, one_int] using q3
  obtain ⟨a3, e3, _, w3⟩ := DataW.trod_int Try.underlying3 q3
  have q4 : DataW.trod enc Try.prog w 0 (fun _ => true) true n' 3 [k4] = some z4 := by simpa [Value.cells, one_int] using q4
  obtain ⟨a4, e4, _, w4⟩ := DataW.trod_int Try.underlying3 q4
  have q5 : DataW.trod enc Try.prog w 0 (fun _ => true) true n' 3 [k5] = some z5 := by simpa [Value.cells, one_int] using q5
  obtain ⟨a5, e5, _, w5⟩ := DataW.trod_int Try.underlying3 q5
  have q6 : DataW.trod enc Try.prog w 0 (fun _ => true) true n' 3 [k6] = some z6 := by simpa [Value.cells, one_int] using q6
  obtain ⟨a6, e6, _, w6⟩ := DataW.trod_int Try.underlying3 q6
  simp only [List.cons.injEq, and_true] at e0 e1 e2 e3 e4 e5 e6 e7 e8
  subst e0 e1 e2 e3 e4 e5 e6 e7 e8
  have b1 := bounds_i64 w1
  have b2 := bounds_i64 w2
  have b3 := bounds_i64 w3
  have b4 := bounds_i64 w4
  have b5 := bounds_i64 w5
  have b6 := bounds_i64 w6
  have b7 := bounds_i64 w7
  have b8 := bounds_i64 w8
  exact ⟨⟨a0, a1, a2, a3, a4, a5, a6, a7, a8⟩, rfl, isI_of b1, isI_of b2, isI_of b3, isI_of b4, isI_of b5, isI_of b6, isI_of b7, isI_of b8⟩
set_option maxRecDepth 100000 in
theorem open_prop {w : World} {d : DataW H} {v : Value} {p : List MemPlace} {b0 : Nat} {r : Reach} (hv : Value.okWide Try.prog w r b0 53 v)
    (hr : ∀ m ∈ d.weights Try.prog 53, m ≤ reachBytes) (h : DataW.Trod enc Try.prog w 0 (fun _ => true) true 53 v d p) (hlt : ∀ x ∈ p, x.block < w.heap.size) :
    ∃ x : PropC, v = .agg #[.int .i64 x.ky, .int .i64 x.kd, .int .i64 x.nu, .int .i64 x.bl, .int .i64 x.pv, .int .i64 x.nx] ∧ (isI x.ky ∧ isI x.kd ∧ isI x.nu ∧ isI x.bl ∧ isI x.pv ∧ isI x.nx) := by
  have hs := Try.underlying53
  obtain ⟨cs, rfl, hsz⟩ := okWide_struct hs hv
  obtain ⟨l⟩ := cs
  have hl : l.length = 6 := by have := hsz.trans cells_prop; simpa using this
  obtain ⟨fuel, hf⟩ := h
  obtain ⟨ys, n, _, hx, _, hlen, hg⟩ := DataW.trod_struct hs hf
  obtain ⟨k0, k1, k2, k3, k4, k5, rfl⟩ : ∃ k0 k1 k2 k3 k4 k5, l = [k0, k1, k2, k3, k4, k5] := by
    rcases l with _ | ⟨c0, _ | ⟨c1, _ | ⟨c2, _ | ⟨c3, _ | ⟨c4, _ | ⟨c5, _ | ⟨c6, r⟩⟩⟩⟩⟩⟩⟩ <;> simp at hl
    exact ⟨c0, c1, c2, c3, c4, c5, rfl⟩
  have hl6 : ys.length = 6 := hlen
  obtain ⟨y0, y1, y2, y3, y4, y5, rfl⟩ : ∃ y0 y1 y2 y3 y4 y5, ys = [y0, y1, y2, y3, y4, y5] := by
    rcases ys with _ | ⟨c0, _ | ⟨c1, _ | ⟨c2, _ | ⟨c3, _ | ⟨c4, _ | ⟨c5, _ | ⟨c6, r⟩⟩⟩⟩⟩⟩⟩ <;> simp at hl6
    exact ⟨c0, c1, c2, c3, c4, c5, rfl⟩
  have g0 := hg 0 _ rfl
  have g0 : DataW.trod enc Try.prog w 0 (fun _ => true) true n 3 [k0] = some y0 := by simpa [Value.cells, one_int] using g0
  obtain ⟨a0, e0, _, w0⟩ := DataW.trod_int Try.underlying3 g0
  have g1 := hg 1 _ rfl
  have g1 : DataW.trod enc Try.prog w 0 (fun _ => true) true n 3 [k1] = some y1 := by simpa [Value.cells, one_int] using g1
  obtain ⟨a1, e1, _, w1⟩ := DataW.trod_int Try.underlying3 g1
  have g2 := hg 2 _ rfl
  have g2 : DataW.trod enc Try.prog w 0 (fun _ => true) true n 2 [k2] = some y2 := by simpa [Value.cells, one_i64] using g2
  obtain ⟨a2, e2, _, w2⟩ := DataW.trod_int Try.underlying2 g2
  have g3 := hg 3 _ rfl
  have g3 : DataW.trod enc Try.prog w 0 (fun _ => true) true n 3 [k3] = some y3 := by simpa [Value.cells, one_int] using g3
  obtain ⟨a3, e3, _, w3⟩ := DataW.trod_int Try.underlying3 g3
  have g4 := hg 4 _ rfl
  have g4 : DataW.trod enc Try.prog w 0 (fun _ => true) true n 3 [k4] = some y4 := by simpa [Value.cells, one_int] using g4
  obtain ⟨a4, e4, _, w4⟩ := DataW.trod_int Try.underlying3 g4
  have g5 := hg 5 _ rfl
  have g5 : DataW.trod enc Try.prog w 0 (fun _ => true) true n 3 [k5] = some y5 := by simpa [Value.cells, one_int] using g5
  obtain ⟨a5, e5, _, w5⟩ := DataW.trod_int Try.underlying3 g5
  simp only [List.cons.injEq, and_true] at e0 e1 e2 e3 e4 e5
  subst e0 e1 e2 e3 e4 e5
  have b0 := bounds_i64 w0
  have b1 := bounds_i64 w1
  have b2 := bounds_i64 w2
  have b3 := bounds_i64 w3
  have b4 := bounds_i64 w4
  have b5 := bounds_i64 w5
  exact ⟨⟨a0, a1, a2, a3, a4, a5⟩, rfl, isI_of b0, isI_of b1, isI_of b2, isI_of b3, isI_of b4, isI_of b5⟩
end
end Go.Proofs.Ytpoaokkmmoeekaa
