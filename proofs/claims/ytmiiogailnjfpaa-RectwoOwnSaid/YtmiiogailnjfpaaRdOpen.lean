/- How the law's records are opened. Written by mkrdopen.py. -/
import Derived.Test.YtmiiogailnjfpaaRcOpenN
import Derived.Test.YtmiiogailnjfpaaRdPureGroup
import Derived.Test.YtmiiogailnjfpaaRdNodT
import Derived.Lib.SmallJoins
namespace Go.Proofs.Ytmiiogailnjfpaa
open Go.ChangeShapes Go.WideShapes Go.ChangeAt Go.RowKit Go.Joins
set_option linter.unusedVariables false

section
variable {H : Type} {enc : TypeId × Value → H}
theorem one_bytes : Try.prog.cellsOf 24 = 1 := by kernel_rfl
theorem cells_grp : Try.prog.cellsOf 56 = 7 := by kernel_rfl
theorem cells_linkT : Try.prog.cellsOf 43 = 7 := by kernel_rfl
theorem cells_relT : Try.prog.cellsOf 45 = 10 := by kernel_rfl
theorem cells_nodT : Try.prog.cellsOf 26 = 5 := by kernel_rfl

set_option maxRecDepth 100000 in
set_option maxHeartbeats 1000000 in
theorem open_grp {w : World} {d : DataW H} {v : Value} {p : List MemPlace} {b0 : Nat} {r : Reach} (hv : Value.okWide Try.prog w r b0 56 v)
    (hr : ∀ m ∈ d.weights Try.prog 56, m ≤ reachBytes) (h : DataW.Trod enc Try.prog w 0 (fun _ => true) true 56 v d p) (hlt : ∀ x ∈ p, x.block < w.heap.size) :
    ∃ x : GroupC, v = .agg #[.bool x.lv, .int .i64 x.ty, .int .i64 x.ow, .int .i64 x.ou, .int .i64 x.ni, .int .i64 x.lp, .int .i64 x.nx] ∧ GroupI x := by
  have hs := Try.underlying56
  obtain ⟨cs, rfl, hsz⟩ := okWide_struct hs hv
  obtain ⟨l⟩ := cs
  have hl : l.length = 7 := by have := hsz.trans cells_grp; simpa using this
  obtain ⟨fuel, hf⟩ := h
  obtain ⟨ys, n, _, hx, _, hlen, hg⟩ := DataW.trod_struct hs hf
  obtain ⟨k0, k1, k2, k3, k4, k5, k6, rfl⟩ : ∃ k0 k1 k2 k3 k4 k5 k6, l = [k0, k1, k2, k3, k4, k5, k6] := by
    rcases l with _ | ⟨c0, _ | ⟨c1, _ | ⟨c2, _ | ⟨c3, _ | ⟨c4, _ | ⟨c5, _ | ⟨c6, _ | ⟨c7, r⟩⟩⟩⟩⟩⟩⟩⟩ <;> simp at hl
    exact ⟨c0, c1, c2, c3, c4, c5, c6, rfl⟩
  have hly : ys.length = 7 := hlen
  obtain ⟨y0, y1, y2, y3, y4, y5, y6, rfl⟩ : ∃ y0 y1 y2 y3 y4 y5 y6, ys = [y0, y1, y2, y3, y4, y5, y6] := by
    rcases ys with _ | ⟨c0, _ | ⟨c1, _ | ⟨c2, _ | ⟨c3, _ | ⟨c4, _ | ⟨c5, _ | ⟨c6, _ | ⟨c7, r⟩⟩⟩⟩⟩⟩⟩⟩ <;> simp at hly
    exact ⟨c0, c1, c2, c3, c4, c5, c6, rfl⟩
  simp only [Prod.mk.injEq] at hx
  obtain ⟨hd, hp⟩ := hx
  have g0 := hg 0 _ rfl
  replace g0 : DataW.trod enc Try.prog w 0 (fun _ => true) true n 4 [k0] = some y0 := by simpa [Value.cells, one_bool] using g0
  obtain ⟨a0, e0, _⟩ := DataW.trod_bool Try.underlying4 g0
  have g1 := hg 1 _ rfl
  replace g1 : DataW.trod enc Try.prog w 0 (fun _ => true) true n 3 [k1] = some y1 := by simpa [Value.cells, one_int] using g1
  obtain ⟨a1, e1, _, w1⟩ := DataW.trod_int Try.underlying3 g1
  have g2 := hg 2 _ rfl
  replace g2 : DataW.trod enc Try.prog w 0 (fun _ => true) true n 3 [k2] = some y2 := by simpa [Value.cells, one_int] using g2
  obtain ⟨a2, e2, _, w2⟩ := DataW.trod_int Try.underlying3 g2
  have g3 := hg 3 _ rfl
  replace g3 : DataW.trod enc Try.prog w 0 (fun _ => true) true n 3 [k3] = some y3 := by simpa [Value.cells, one_int] using g3
  obtain ⟨a3, e3, _, w3⟩ := DataW.trod_int Try.underlying3 g3
  have g4 := hg 4 _ rfl
  replace g4 : DataW.trod enc Try.prog w 0 (fun _ => true) true n 3 [k4] = some y4 := by simpa [Value.cells, one_int] using g4
  obtain ⟨a4, e4, _, w4⟩ := DataW.trod_int Try.underlying3 g4
  have g5 := hg 5 _ rfl
  replace g5 : DataW.trod enc Try.prog w 0 (fun _ => true) true n 3 [k5] = some y5 := by simpa [Value.cells, one_int] using g5
  obtain ⟨a5, e5, _, w5⟩ := DataW.trod_int Try.underlying3 g5
  have g6 := hg 6 _ rfl
  replace g6 : DataW.trod enc Try.prog w 0 (fun _ => true) true n 3 [k6] = some y6 := by simpa [Value.cells, one_int] using g6
  obtain ⟨a6, e6, _, w6⟩ := DataW.trod_int Try.underlying3 g6
  simp only [List.cons.injEq, and_true] at e0 e1 e2 e3 e4 e5 e6
  subst e0 e1 e2 e3 e4 e5 e6
  exact ⟨⟨a0, a1, a2, a3, a4, a5, a6⟩, rfl, isI_of (bounds_i64 w1), isI_of (bounds_i64 w2), isI_of (bounds_i64 w3), isI_of (bounds_i64 w4), isI_of (bounds_i64 w5), isI_of (bounds_i64 w6)⟩
set_option maxRecDepth 100000 in
set_option maxHeartbeats 1000000 in
theorem open_relT {w : World} {d : DataW H} {v : Value} {p : List MemPlace} {b0 : Nat} {r : Reach} (hv : Value.okWide Try.prog w r b0 45 v)
    (hr : ∀ m ∈ d.weights Try.prog 45, m ≤ reachBytes) (h : DataW.Trod enc Try.prog w 0 (fun _ => true) true 45 v d p) (hlt : ∀ x ∈ p, x.block < w.heap.size) :
    ∃ (x : RelC) (A : Option Addr) (L : List Nat) (c : Nat), v = .agg #[.bool x.lv, .int .i64 x.fr, .int .i64 x.to, .int .i64 x.fp, .int .i64 x.tp, .int .i64 x.fn, .int .i64 x.tn, .int .i64 x.ty, .int .i64 x.pr, .slice A L.length c] ∧ RelI x ∧ RB w w.heap.size A L ∧ L.length ≤ c ∧ c ≤ 140737488351232 := by
  have hs := Try.underlying45
  obtain ⟨cs, rfl, hsz⟩ := okWide_struct hs hv
  obtain ⟨l⟩ := cs
  have hl : l.length = 10 := by have := hsz.trans cells_relT; simpa using this
  obtain ⟨fuel, hf⟩ := h
  obtain ⟨ys, n, _, hx, _, hlen, hg⟩ := DataW.trod_struct hs hf
  obtain ⟨k0, k1, k2, k3, k4, k5, k6, k7, k8, k9, rfl⟩ : ∃ k0 k1 k2 k3 k4 k5 k6 k7 k8 k9, l = [k0, k1, k2, k3, k4, k5, k6, k7, k8, k9] := by
    rcases l with _ | ⟨c0, _ | ⟨c1, _ | ⟨c2, _ | ⟨c3, _ | ⟨c4, _ | ⟨c5, _ | ⟨c6, _ | ⟨c7, _ | ⟨c8, _ | ⟨c9, _ | ⟨c10, r⟩⟩⟩⟩⟩⟩⟩⟩⟩⟩⟩ <;> simp at hl
    exact ⟨c0, c1, c2, c3, c4, c5, c6, c7, c8, c9, rfl⟩
  have hly : ys.length = 4 := hlen
  obtain ⟨y0, y1, y2, y3, rfl⟩ : ∃ y0 y1 y2 y3, ys = [y0, y1, y2, y3] := by
    rcases ys with _ | ⟨c0, _ | ⟨c1, _ | ⟨c2, _ | ⟨c3, _ | ⟨c4, r⟩⟩⟩⟩⟩ <;> simp at hly
    exact ⟨c0, c1, c2, c3, rfl⟩
  simp only [Prod.mk.injEq] at hx
  obtain ⟨hd, hp⟩ := hx
  have g0 := hg 0 _ rfl
  replace g0 : DataW.trod enc Try.prog w 0 (fun _ => true) true n 43 [k0, k1, k2, k3, k4, k5, k6] = some y0 := by simpa [Value.cells, cells_linkT] using g0
  have g1 := hg 1 _ rfl
  replace g1 : DataW.trod enc Try.prog w 0 (fun _ => true) true n 3 [k7] = some y1 := by simpa [Value.cells, one_int] using g1
  have g2 := hg 2 _ rfl
  replace g2 : DataW.trod enc Try.prog w 0 (fun _ => true) true n 3 [k8] = some y2 := by simpa [Value.cells, one_int] using g2
  have g3 := hg 3 _ rfl
  replace g3 : DataW.trod enc Try.prog w 0 (fun _ => true) true n 24 [k9] = some y3 := by simpa [Value.cells, one_bytes] using g3
  have hwt3 : ∀ m, m ∈ y3.1.weights Try.prog 24 → m ≤ reachBytes := fun m hm => hr m (by
    rw [hd]
    simp only [DataW.weights, hs, List.map_cons, List.map_nil]
    simp only [DataW.weightsEach, List.mem_append]
    exact .inr (.inr (.inr (.inl hm))))
  obtain ⟨a7, e7, _, w7⟩ := DataW.trod_int Try.underlying3 g1
  obtain ⟨a8, e8, _, w8⟩ := DataW.trod_int Try.underlying3 g2
  obtain ⟨A, sl, c, hsl⟩ := slice_form Try.underlying24 g3
  simp only [List.cons.injEq, and_true] at hsl
  subst hsl
  obtain ⟨L, rfl, hb⟩ := open_bytes (d := y3.1) (p := y3.2) Try.underlying24 Try.underlying5 (by kernel_rfl) (by kernel_rfl) hwt3 ⟨n, g3⟩
  obtain ⟨zs, n', _, hx', _, hlen', hg'⟩ := DataW.trod_struct Try.underlying43 g0
  have hl7 : zs.length = 7 := hlen'
  obtain ⟨z0, z1, z2, z3, z4, z5, z6, rfl⟩ : ∃ z0 z1 z2 z3 z4 z5 z6, zs = [z0, z1, z2, z3, z4, z5, z6] := by
    rcases zs with _ | ⟨c0, _ | ⟨c1, _ | ⟨c2, _ | ⟨c3, _ | ⟨c4, _ | ⟨c5, _ | ⟨c6, _ | ⟨c7, r⟩⟩⟩⟩⟩⟩⟩⟩ <;> simp at hl7
    exact ⟨c0, c1, c2, c3, c4, c5, c6, rfl⟩
  have q0 := hg' 0 _ rfl
  replace q0 : DataW.trod enc Try.prog w 0 (fun _ => true) true n' 4 [k0] = some z0 := by simpa [Value.cells, one_bool] using q0
  obtain ⟨a0, e0, _⟩ := DataW.trod_bool Try.underlying4 q0
  have q1 := hg' 1 _ rfl
  replace q1 : DataW.trod enc Try.prog w 0 (fun _ => true) true n' 3 [k1] = some z1 := by simpa [Value.cells, one_int] using q1
  obtain ⟨a1, e1, _, w1⟩ := DataW.trod_int Try.underlying3 q1
  have q2 := hg' 2 _ rfl
  replace q2 : DataW.trod enc Try.prog w 0 (fun _ => true) true n' 3 [k2] = some z2 := by simpa [Value.cells, one_int] using q2
  obtain ⟨a2, e2, _, w2⟩ := DataW.trod_int Try.underlying3 q2
  have q3 := hg' 3 _ rfl
  replace q3 : DataW.trod enc Try.prog w 0 (fun _ => true) true n' 3 [k3] = some z3 := by simpa [Value.cells, one_int] using q3
  obtain ⟨a3, e3, _, w3⟩ := DataW.trod_int Try.underlying3 q3
  have q4 := hg' 4 _ rfl
  replace q4 : DataW.trod enc Try.prog w 0 (fun _ => true) true n' 3 [k4] = some z4 := by simpa [Value.cells, one_int] using q4
  obtain ⟨a4, e4, _, w4⟩ := DataW.trod_int Try.underlying3 q4
  have q5 := hg' 5 _ rfl
  replace q5 : DataW.trod enc Try.prog w 0 (fun _ => true) true n' 3 [k5] = some z5 := by simpa [Value.cells, one_int] using q5
  obtain ⟨a5, e5, _, w5⟩ := DataW.trod_int Try.underlying3 q5
  have q6 := hg' 6 _ rfl
  replace q6 : DataW.trod enc Try.prog w 0 (fun _ => true) true n' 3 [k6] = some z6 := by simpa [Value.cells, one_int] using q6
  obtain ⟨a6, e6, _, w6⟩ := DataW.trod_int Try.underlying3 q6
  simp only [List.cons.injEq, and_true] at e0 e1 e2 e3 e4 e5 e6 e7 e8
  subst e0 e1 e2 e3 e4 e5 e6 e7 e8
  exact ⟨⟨a0, a1, a2, a3, a4, a5, a6, a7, a8⟩, A, L, c, rfl, ⟨isI_of (bounds_i64 w1), isI_of (bounds_i64 w2), isI_of (bounds_i64 w3), isI_of (bounds_i64 w4), isI_of (bounds_i64 w5), isI_of (bounds_i64 w6), isI_of (bounds_i64 w7), isI_of (bounds_i64 w8)⟩, hb⟩
set_option maxRecDepth 100000 in
set_option maxHeartbeats 1000000 in
theorem open_nodT {w : World} {d : DataW H} {v : Value} {p : List MemPlace} {b0 : Nat} {r : Reach} (hv : Value.okWide Try.prog w r b0 26 v)
    (hr : ∀ m ∈ d.weights Try.prog 26, m ≤ reachBytes) (h : DataW.Trod enc Try.prog w 0 (fun _ => true) true 26 v d p) (hlt : ∀ x ∈ p, x.block < w.heap.size) :
    ∃ (x : NodC) (A : Option Addr) (L : List Int) (c : Nat) (A2 : Option Addr) (L2 : List Nat) (c2 : Nat), v = .agg #[.bool x.d, .int .i64 x.f, .int .i64 x.o, .slice A L.length c, .slice A2 L2.length c2] ∧ (isI x.f ∧ isI x.o ∧ ∀ y ∈ L, isI y) ∧ (RL ivl w w.heap.size A L ∧ L.length ≤ c ∧ c * 8 ≤ 140737488351232) ∧ RB w w.heap.size A2 L2 ∧ L2.length ≤ c2 ∧ c2 ≤ 140737488351232 := by
  have hs := Try.underlying26
  obtain ⟨cs, rfl, hsz⟩ := okWide_struct hs hv
  obtain ⟨l⟩ := cs
  have hl : l.length = 5 := by have := hsz.trans cells_nodT; simpa using this
  obtain ⟨fuel, hf⟩ := h
  obtain ⟨ys, n, _, hx, _, hlen, hg⟩ := DataW.trod_struct hs hf
  obtain ⟨k0, k1, k2, k3, k4, rfl⟩ : ∃ k0 k1 k2 k3 k4, l = [k0, k1, k2, k3, k4] := by
    rcases l with _ | ⟨c0, _ | ⟨c1, _ | ⟨c2, _ | ⟨c3, _ | ⟨c4, _ | ⟨c5, r⟩⟩⟩⟩⟩⟩ <;> simp at hl
    exact ⟨c0, c1, c2, c3, c4, rfl⟩
  have hly : ys.length = 5 := hlen
  obtain ⟨y0, y1, y2, y3, y4, rfl⟩ : ∃ y0 y1 y2 y3 y4, ys = [y0, y1, y2, y3, y4] := by
    rcases ys with _ | ⟨c0, _ | ⟨c1, _ | ⟨c2, _ | ⟨c3, _ | ⟨c4, _ | ⟨c5, r⟩⟩⟩⟩⟩⟩ <;> simp at hly
    exact ⟨c0, c1, c2, c3, c4, rfl⟩
  simp only [Prod.mk.injEq] at hx
  obtain ⟨hd, hp⟩ := hx
  have g0 := hg 0 _ rfl
  replace g0 : DataW.trod enc Try.prog w 0 (fun _ => true) true n 4 [k0] = some y0 := by simpa [Value.cells, one_bool] using g0
  have g1 := hg 1 _ rfl
  replace g1 : DataW.trod enc Try.prog w 0 (fun _ => true) true n 3 [k1] = some y1 := by simpa [Value.cells, one_int] using g1
  have g2 := hg 2 _ rfl
  replace g2 : DataW.trod enc Try.prog w 0 (fun _ => true) true n 3 [k2] = some y2 := by simpa [Value.cells, one_int] using g2
  have g3 := hg 3 _ rfl
  replace g3 : DataW.trod enc Try.prog w 0 (fun _ => true) true n 23 [k3] = some y3 := by simpa [Value.cells, one_ints] using g3
  have g4 := hg 4 _ rfl
  replace g4 : DataW.trod enc Try.prog w 0 (fun _ => true) true n 24 [k4] = some y4 := by simpa [Value.cells, one_bytes] using g4
  have hwt3 : ∀ m, m ∈ y3.1.weights Try.prog 23 → m ≤ reachBytes := fun m hm => hr m (by
    rw [hd]
    simp only [DataW.weights, hs, List.map_cons, List.map_nil]
    simp only [DataW.weightsEach, List.mem_append]
    exact .inr (.inr (.inr (.inl hm))))
  have hwt4 : ∀ m, m ∈ y4.1.weights Try.prog 24 → m ≤ reachBytes := fun m hm => hr m (by
    rw [hd]
    simp only [DataW.weights, hs, List.map_cons, List.map_nil]
    simp only [DataW.weightsEach, List.mem_append]
    exact .inr (.inr (.inr (.inr (.inl hm)))))
  obtain ⟨a0, e0, _⟩ := DataW.trod_bool Try.underlying4 g0
  obtain ⟨a1, e1, _, w1⟩ := DataW.trod_int Try.underlying3 g1
  obtain ⟨a2, e2, _, w2⟩ := DataW.trod_int Try.underlying3 g2
  simp only [List.cons.injEq, and_true] at e0 e1 e2
  subst e0 e1 e2
  obtain ⟨A, ns, c, rfl, r3, n3, b3, b4⟩ := open_intsC Try.underlying23 Try.underlying3 one_int (by kernel_rfl) hwt3 g3
  obtain ⟨A2, sl, c2, hsl⟩ := slice_form Try.underlying24 g4
  simp only [List.cons.injEq, and_true] at hsl
  subst hsl
  obtain ⟨L2, rfl, hb⟩ := open_bytes (d := y4.1) (p := y4.2) Try.underlying24 Try.underlying5 (by kernel_rfl) (by kernel_rfl) hwt4 ⟨n, g4⟩
  exact ⟨⟨a0, a1, a2⟩, A, ns, c, A2, L2, c2, rfl, ⟨isI_of (bounds_i64 w1), isI_of (bounds_i64 w2), fun x hx => isI_of (n3 x hx)⟩, ⟨r3, b3, b4⟩, hb⟩
end
end Go.Proofs.Ytmiiogailnjfpaa
