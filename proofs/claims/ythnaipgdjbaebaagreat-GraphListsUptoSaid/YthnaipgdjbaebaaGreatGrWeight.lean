/- The program's Weight of a graph. -/
import Derived.Test.YthnaipgdjbaebaaGreatGrSeq2
import Derived.Test.YthnaipgdjbaebaaGreatValEnc2
namespace Go.Proofs.YthnaipgdjbaebaaGreat
open Go.RowKit Go.Shelf
set_option linter.unusedVariables false
attribute [local go_sem] Oper.semAt_some

/-- the sum of the bytes of values, as int's arithmetic has it -/
def sumP {W0 : World} {B : Nat} (xs : List (Pel W0 B)) : Int := xs.foldl (fun s x => wrap64 (s + ((encV x.1.p.val).length : Int))) 0
theorem sumP_snoc {W0 : World} {B : Nat} (xs : List (Pel W0 B)) (x : Pel W0 B) : sumP (xs ++ [x]) = wrap64 (sumP xs + ((encV x.1.p.val).length : Int)) := by simp [sumP]

set_option maxHeartbeats 400000 in
theorem properties_any (A A' : Option Addr) (n c n' c' : Nat) (w : World) :
    Calls Tryz.prog 57 #[.agg #[.slice A n c, .slice A' n' c']] w fun e w' => e = .returned (.func (.func 81) #[] #[.pointer (some ⟨w.heap.size, 0, none⟩)]) ∧ w.alloc (.cells #[.slice A n c, .slice A' n' c'] 27) = w' := by
  go_enter Tryz.func57, Tryz.ntmps57
  go_wp2
  go_ret
  exact ⟨rfl, rfl⟩

theorem props_stops {W0 : World} {B : Nat} (F : Fence) (hd : F.depth = none) (h81 : F.fn 81) (h82 : F.fn 82) (hro : F.round = none) (n n₀ Bg : Nat) (EN : List (NEl W0 B)) (ER : List (REl W0 B))
    (A A' : Option Addr) (c c' : Nat) (w1 : World) (hN : NElsAt w1 A EN) (hR : RElsAt w1 A' ER) (hB : B ≤ n₀) (hn0 : n₀ ≤ w1.heap.size) (hgs : Bg < w1.heap.size)
    (hc0 : w1.cell? ⟨Bg, 0, none⟩ = some (.slice A EN.length c)) (hc1 : w1.cell? ⟨Bg, 1, none⟩ = some (.slice A' ER.length c')) (hl : EN.length ≤ 140737488351232) (hl' : ER.length ≤ 140737488351232) :
    SeqStopsK F n Tryz.prog 81 #[.pointer (some ⟨Bg, 0, none⟩)] encP (KB n₀ Bg) (fun ys => ys = allN EN ++ allR ER) (fun pre => pre <+: allN EN ++ allR ER) (allN EN ++ allR ER).length w1 :=
  fun l J Jx W hW hJ hJx hY h0 => by
    have hs := hW.size
    exact props_in F hd h81 h82 hro l n₀ Bg J Jx (fun s W1 o h => hJ s W1 (W1.alloc o) none h (World.grownBy_alloc W1 o none) (fun r e => by cases e)) EN ER
      (fun m pre x W1 h1 h2 => YieldAt.anyD hd m (hY pre x W1 h1 h2)) n A A' c c' W (hN.below (hW.mono (by omega))) (hR.below (hW.mono (by omega))) hB (by omega) (by omega) h0
      ((hW.cell (p := ⟨Bg, 0, none⟩) hgs).trans hc0) ((hW.cell (p := ⟨Bg, 1, none⟩) hgs).trans hc1) hl hl'

theorem putObj_other (W : World) (l : Nat) (o' : Obj) {k : Nat} (h : k ≠ l) : (W.putObj l o').heap[k]? = W.heap[k]? := by
  have := (grownBy_putObj' W l o').block k
  rcases Nat.lt_or_ge k W.heap.size with hk | hk
  · exact this hk (fun e => h (by injection e))
  · rw [Array.getElem?_eq_none hk, Array.getElem?_eq_none (by simpa [World.putObj] using hk)]
theorem keepsFrom_of_below {B : Nat} {W W' : World} (h : Below W.heap.size W W') : KeepsFrom B W W' := ⟨h.size, fun k o _ h0 _ => (h.block k (Array.getElem?_eq_some_iff.1 h0).1).trans h0⟩

set_option maxRecDepth 100000 in
set_option maxHeartbeats 2000000 in
theorem gWeight_any {W0 : World} {B : Nat} (EN : List (NEl W0 B)) (ER : List (REl W0 B)) (A A' : Option Addr) (c c' : Nat) (w : World) (hN : NElsAt w A EN) (hR : RElsAt w A' ER) (hB : B ≤ w.heap.size) (hW : Below B W0 w)
    (hl : EN.length ≤ 140737488351232) (hl' : ER.length ≤ 140737488351232) :
    Calls Tryz.prog 30 #[.agg #[.slice A EN.length c, .slice A' ER.length c']] w fun e w' => e = .returned (.int .i64 (sumP (allN EN ++ allR ER))) ∧ Below w.heap.size w w' := by
  refine (callsIn_wide (n := 5)).1 ?_
  refine callsIn_of_wp_marks Tryz.func30 rfl trivial ?_ rfl
  simp only [Tryz.ntmps30, List.size_toArray, List.length_cons, List.length_nil, Nat.reduceAdd, Nat.reduceSub, Array.replicate_succ, Array.replicate_zero, List.push_toArray, List.append_toArray, List.nil_append, List.cons_append]
  gi_wp2_with fail
  refine ⟨trivial, ?_⟩
  refine (callsIn_wide.2 (properties_any A A' EN.length c ER.length c' _)).mono ?_
  rintro e w' ⟨rfl, rfl⟩
  gi_wp2_with fail
  obtain ⟨w1, hw1⟩ : ∃ x, x = ((w.alloc (.cells #[.slice A EN.length c, .slice A' ER.length c'] 27)).alloc (.cells #[.int .i64 0] 3)).alloc (.cells #[.slice A EN.length c, .slice A' ER.length c'] 27) := ⟨_, rfl⟩
  rw [← hw1]
  have hsz : w1.heap.size = w.heap.size + 3 := by rw [hw1]; simp
  have hb1 : Below w.heap.size w w1 := by rw [hw1]; exact (((Below.refl _ _).alloc (Nat.le_refl _) _).alloc (by simp) _).alloc (by simp; omega) _
  have bs1 : Boxed w1 (w.heap.size + 1) 3 (.int .i64 0) := by
    rw [hw1]
    refine Boxed.alloc ?_ _
    have := Boxed.new (w.alloc (.cells #[.slice A EN.length c, .slice A' ER.length c'] 27)) 3 (.int .i64 0)
    simpa using this
  have bg1 : Blk w1 (w.heap.size + 1 + 1) 27 #[.slice A EN.length c, .slice A' ER.length c'] := by
    rw [hw1]
    have := Blk.new ((w.alloc (.cells #[.slice A EN.length c, .slice A' ER.length c'] 27)).alloc (.cells #[.int .i64 0] 3)) 27 #[.slice A EN.length c, .slice A' ER.length c']
    simpa using this
  have hN1 : NElsAt w1 A EN := hN.below (hb1.mono hB)
  have hR1 : RElsAt w1 A' ER := hR.below (hb1.mono hB)
  clear hw1
  refine wpIn_rangeFunc_ownH (F := Fence.wide) rfl (by omega) (gf := 81) (lb := #[.pointer (some ⟨w.heap.size + 1 + 1, 0, none⟩)]) rfl trivial (enters_of Tryz.func81 (by kernel_rfl) rfl)
    (props_stops Fence.wide rfl trivial trivial rfl _ w.heap.size (w.heap.size + 1 + 1) EN ER A A' c c' w1 hN1 hR1 hB (by omega) (by omega) (by rw [bg1.cell 0]; rfl) (by rw [bg1.cell 1]; rfl) hl hl')
    KB.trans (fun W l o o' hl1 hl2 hl3 hl4 => ⟨belowK_b (w := w1) (by omega) W l o o' hl1 hl2 hl3 hl4, putObj_other W l o' (by omega)⟩) (Below.refl _ _) (fun _ => rfl)
    (fun pre W => Boxed W (w.heap.size + 1) 3 (.int .i64 (sumP pre)) ∧ Below w.heap.size w W ∧ w1.heap.size ≤ W.heap.size) (fun _ _ _ => False)
    (OwnFrom.and (Own.from (boxed_own _ _ fun pre => .int .i64 (sumP pre)) _) (OwnFrom.and (ownFrom_below (Nat.le_refl _) (by omega)) (fun _ _ _ _ hs hg _ => Nat.le_trans hs hg.size))) (fun _ _ _ _ _ hs _ _ => hs) ⟨bs1, hb1, Nat.le_refl _⟩
    (fun x a' W => ∃ Bx, w.heap.size + 2 < Bx ∧ Blk W Bx 45 (pcells x.1.p x.1.A x.1.c x.1.A' x.1.c') ∧ a' = { tmps := #[.agg #[.slice A EN.length c, .slice A' ER.length c'], .pointer (some ⟨w.heap.size, 0, none⟩), .int .i64 0, .pointer (some ⟨w.heap.size + 1, 0, none⟩), .pointer (some ⟨Bx, 0, none⟩), .agg #[.slice A EN.length c, .slice A' ER.length c'], .func (.func 81) #[] #[.pointer (some ⟨w.heap.size + 1 + 1, 0, none⟩)], .agg #[.string x.1.p.key, .int .i64 x.1.p.val.k, .int .i64 x.1.p.val.n, .string x.1.p.val.s, .slice x.1.A x.1.p.val.ns.length x.1.c, .slice x.1.A' x.1.p.val.ts.length x.1.c'], undef, undef, undef, undef, undef, undef], defers := [] })
    (fun x a' s X Y row ⟨Bx, h1, hb, e⟩ hg hr => ⟨Bx, h1, hb.grown hg (fun e2 => by
      obtain ⟨_, o, ho, hc⟩ := hr Bx e2.symm
      unfold Blk at hb
      rw [hb] at ho
      cases ho
      cases hc), e⟩) ?assign ?body ?done ?stop
  case assign =>
    rintro l pre x W K ⟨bS, hBW, hw3⟩ hK
    have hWs := hBW.size
    have hWl := bS.lt
    unfold encP
    gi_wp2
    refine hK _ _ ((KeepsOthers.alloc _ _).from _) ((KB.refl _ _ _).alloc (by omega) (by omega) _) ⟨bS.alloc _, hBW.alloc hWs _, by simp; omega⟩ ⟨W.heap.size, by omega, Blk.new _ _ _, rfl⟩
  case body =>
    rintro l pre x a' W hl1 ⟨r, hr⟩ ⟨bS, hBW, hw3⟩ ⟨Bx, hBx, bX, rfl⟩ hlt
    have hsn := sumP_snoc pre x
    obtain ⟨⟨⟨key, ⟨vk, vn, vs, ns, ts⟩⟩, A2, c2, A3, c3⟩, hx1, hx2, hx3, hx4⟩ := x
    simp only at hx1 hx2 hx3 hx4 hsn
    have hWs := hBW.size
    have hB0 : Below B W0 W := hW.trans (hBW.mono hB)
    have cS := bS.cell
    have fS := bS.frozen
    have q1 : W.cell? ⟨Bx, 1, none⟩ = some (.int .i64 vk) := by rw [bX.cell 1]; rfl
    have q2 : W.cell? ⟨Bx, 2, none⟩ = some (.int .i64 vn) := by rw [bX.cell 2]; rfl
    have q3 : W.cell? ⟨Bx, 3, none⟩ = some (.string vs) := by rw [bX.cell 3]; rfl
    have q4 : W.cell? ⟨Bx, 4, none⟩ = some (.slice A2 ns.length c2) := by rw [bX.cell 4]; rfl
    have q5 : W.cell? ⟨Bx, 5, none⟩ = some (.slice A3 ts.length c3) := by rw [bX.cell 5]; rfl
    have HV := Weight_any ⟨vk, vn, vs, ns, ts⟩ (vagg ⟨vk, vn, vs, ns, ts⟩ A2 c2 A3 c3) B W.drew ⟨A2, c2, A3, c3, rfl, hx1.below hB0.drew, hx2.below hB0.drew, hx3⟩ (Nat.le_trans hB hWs)
    unfold vagg at HV
    simp only at HV
    obtain ⟨len, hlen⟩ : ∃ len : Int, len = ((encV ⟨vk, vn, vs, ns, ts⟩).length : Int) := ⟨_, rfl⟩
    rw [← hlen] at HV hsn
    have HV := Lib.hid HV
    have Hsn := Lib.hid hsn
    have hSl := bS.lt
    obtain ⟨S, hS⟩ : ∃ S, S = sumP pre := ⟨_, rfl⟩
    rw [← hS] at cS
    have HS := Lib.hid hS
    clear hsn bX hlen hS
    gi_wp2
    gi_region_with (refine ⟨trivial, ?_⟩; gi_at_call 58; refine (CallsIn.inRound l (callsIn_wide.2 HV.out)).mono ?_; rintro e w8 ⟨rfl, hb8⟩; have cS8 := (hb8.cell (p := ⟨w.heap.size + 1, 0, none⟩) hSl).trans cS; have fS8 := (hb8.frozen (p := ⟨w.heap.size + 1, 0, none⟩) hSl).trans fS)
    all_goals gi_wp2
    all_goals (try go_bits)
    all_goals
      have hb9 : Below W.heap.size W w8 := ⟨hb8.os, hb8.tape, hb8.output, hb8.size, hb8.block⟩
      have bS9 : Boxed w8 (w.heap.size + 1) 3 (.int .i64 (sumP pre)) := (hb9.block _ hSl).trans bS
      have hs9 := hb9.size
      refine ⟨(keepsFrom_of_below hb9).trans ((KeepsOthers.setCell _ _ _).from _), ⟨(hb9.mono hWs).setCell (p := ⟨w.heap.size + 1, 0, none⟩) (by simp) _, (Below.heap_setCell _ _ _ _ (by simp)).trans (hb9.block _ (by omega))⟩, ?_, (hBW.trans (hb9.mono hWs)).setCell (p := ⟨w.heap.size + 1, 0, none⟩) (by simp) _, by simp [World.setCell]; omega⟩
      rw [Hsn.out, ← HS.out]
      exact bS9.set _
  case done =>
    rintro D ys W hD rfl ⟨bS, hBW, hw3⟩ hK
    have cS := bS.cell
    gi_wp2
    refine ⟨by simp, .inl ⟨_, _, rfl, run_takeDeferred hK, ?_⟩⟩
    exact ⟨_, results_tmp rfl _ _ _, rfl, hBW.trans (belowK_b (w := w1) (by omega) W D _ _ (by omega) hK rfl rfl)⟩
  case stop =>
    rintro D c0 pre W _ _ h _
    exact h.elim

end Go.Proofs.YthnaipgdjbaebaaGreat
