/- The law's speaks. -/
import Derived.Test.YtpoaokkmmoeekaaRcPropG
import Derived.Test.YtpoaokkmmoeekaaRcRelA
import Derived.Test.YtpoaokkmmoeekaaSameS
namespace Go.Proofs.Ytpoaokkmmoeekaa
open Go.RowKit
set_option linter.unusedVariables false

theorem sp_e1 : putNE 0 (-1) [0, 4] = 0 := by kernel_rfl
theorem sp_b1 : (putNQ 0 (-1) [0, 4]).1.bytes = [0, 0, 0, 1, 0, 0, 0, 0, 1, 5, 0, 0, 0, 0, 0, 0] := by kernel_rfl
theorem sp_e2 : putPropE ⟨2, 2, 258, -1, -1, 6⟩ = 0 := by kernel_rfl
theorem sp_b2 : (putPropQ ⟨2, 2, 258, -1, -1, 6⟩).1.bytes = [0, 2, 2, 0, 0, 0, 0, 0, 0, 1, 2, 0, 0, 0, 0, 0, 0, 0, 7] := by kernel_rfl
def spL : List Nat := [0, 0, 0, 3, 0, 0, 0, 4, 0, 5, 0, 0, 0, 0, 0, 0, 0, 2, 0, 0, 0, 0, 0, 0, 0, 0, 0, 0, 0, 0]
theorem sp_e3 : getRelE spL = 0 := by kernel_rfl
theorem sp_fr : (getRelV spL).fr = 3 := by kernel_rfl
theorem sp_to : (getRelV spL).to = 4 := by kernel_rfl
theorem sp_ty : (getRelV spL).ty = 5 := by kernel_rfl
theorem sp_fp : (getRelV spL).fp = -1 := by kernel_rfl
theorem sp_fn : (getRelV spL).fn = 1 := by kernel_rfl
theorem sp_tp : (getRelV spL).tp = -1 := by kernel_rfl
theorem sp_tn : (getRelV spL).tn = -1 := by kernel_rfl
theorem sp_pr : (getRelV spL).pr = -1 := by kernel_rfl

theorem sp_node (w : World) (N : Nat) (hN : w.heap.size = N) : Calls Try.prog 11 #[.agg #[.int .i64 0, .int .i64 (-1), .slice (some ⟨N, 0, none⟩) 2 2]] (w.alloc (.cells #[.int .i64 0, .int .i64 4] 3)) fun e w' => ∃ v, e = .returned (.tuple #[v, .int .i64 0]) ∧ OB w' 0 5 v [0, 0, 0, 1, 0, 0, 0, 0, 1, 5, 0, 0, 0, 0, 0, 0] ∧ Below w.heap.size w w' := by
  subst hN
  have hb : Blk (w.alloc (.cells #[.int .i64 0, .int .i64 4] 3)) w.heap.size 3 (icells [0, 4]) := Blk.new _ _ _
  have := PutNode_any (some ⟨w.heap.size, 0, none⟩) 2 _ 0 (-1) [0, 4] _ hb.rl (Nat.le_refl _) (by simp) (by unfold maxLen; omega)
  rw [sp_e1, if_pos rfl, sp_b1] at this
  refine this.mono ?_
  rintro e w' ⟨v, rfl, ho, hb⟩
  exact ⟨v, rfl, ho.mono (Nat.zero_le _), ((Below.refl _ _).alloc (Nat.le_refl _) _).trans (hb.mono (by simp))⟩
theorem sp_prop (w : World) : Calls Try.prog 22 #[.agg #[.int .i64 2, .int .i64 2, .int .i64 258, .int .i64 (-1), .int .i64 (-1), .int .i64 6]] w fun e w' => ∃ v, e = .returned (.tuple #[v, .int .i64 0]) ∧ OB w' 0 5 v [0, 2, 2, 0, 0, 0, 0, 0, 0, 1, 2, 0, 0, 0, 0, 0, 0, 0, 7] ∧ Below w.heap.size w w' := by
  have := PutProp_any ⟨2, 2, 258, -1, -1, 6⟩ w
  rw [sp_e2, if_pos rfl, sp_b2] at this
  refine this.mono ?_
  rintro e w' ⟨v, rfl, ho, hb⟩
  exact ⟨v, rfl, ho.mono (Nat.zero_le _), hb⟩
theorem sp_bytes (L : List Nat) (h : L.all (· < 256) = true) : IsBytes L := by
  intro x hx
  simpa using (List.all_eq_true.1 h) x hx
theorem sp_rel (w : World) (N : Nat) (hN : w.heap.size = N) (cs : Array Value) (hcs : cs.toList = cells8 spL) : Calls Try.prog 20 #[.slice (some ⟨N, 0, none⟩) 30 30] (w.alloc (.cells cs 5)) fun e w' => e = .returned (.tuple #[.agg #[.bool true, .int .i64 3, .int .i64 4, .int .i64 (-1), .int .i64 (-1), .int .i64 1, .int .i64 (-1), .int .i64 5, .int .i64 (-1)], .int .i64 0]) ∧ Below w.heap.size w w' := by
  subst hN
  have := GetRel_any (some ⟨w.heap.size, 0, none⟩) 30 (w.heap.size + 1) spL (w.alloc (.cells cs 5)) (RB.lit w 5 (sp_bytes spL (by decide)) cs hcs) (by simp) (by decide)
  refine this.mono ?_
  rintro e w' ⟨rfl, hb⟩
  rw [sp_e3, if_pos rfl, sp_fr, sp_to, sp_ty, sp_fp, sp_fn, sp_tp, sp_tn, sp_pr]
  exact ⟨rfl, ((Below.refl _ _).alloc (Nat.le_refl _) _).trans (hb.bel.mono (by simp))⟩

set_option maxRecDepth 100000 in
set_option maxHeartbeats 4000000 in
theorem speaks_any (w : World) : Calls Try.prog 10 #[] w fun e w' => e = .returned (.bool true) ∧ Below w.heap.size w w' := by
  have H1 := Lib.hid (sp_node w _ rfl)
  go_enter Try.func10, Try.ntmps10
  go_upto_region 2 with (go_at_call 11; refine (H1.out).mono ?_; rintro e w1 ⟨v1, rfl, ho1, hb1⟩; obtain ⟨A1, c1, rfl, _, _, hr1, _⟩ := ho1.form)
  have S1 := Lib.hid (same_yes A1 (some ⟨w1.heap.size, 0, none⟩) 16 c1 16 _ (w1.heap.size + 1) [0, 0, 0, 1, 0, 0, 0, 0, 1, 5, 0, 0, 0, 0, 0, 0] (w1.alloc (.cells #[.int .u8 0, .int .u8 0, .int .u8 0, .int .u8 1, .int .u8 0, .int .u8 0, .int .u8 0, .int .u8 0, .int .u8 1, .int .u8 5, .int .u8 0, .int .u8 0, .int .u8 0, .int .u8 0, .int .u8 0, .int .u8 0] 5)) (hr1.alloc (Nat.le_refl _) _) (RB.lit w1 5 (sp_bytes _ (by decide)) _ rfl) rfl (by decide))
  have HB1 := Lib.hid ((hb1.alloc hb1.size (.cells #[.int .u8 0, .int .u8 0, .int .u8 0, .int .u8 1, .int .u8 0, .int .u8 0, .int .u8 0, .int .u8 0, .int .u8 1, .int .u8 5, .int .u8 0, .int .u8 0, .int .u8 0, .int .u8 0, .int .u8 0, .int .u8 0] 5)))
  clear ho1 hr1 hb1 H1
  go_upto_region 4 with (go_at_call 13; refine (S1.out).mono ?_; rintro e w2 ⟨rfl, n2, hw2⟩; have HB2 := Lib.hid (below_drewN HB1.out n2); rw [← hw2] at HB2; clear hw2)
  have H2 := Lib.hid (sp_prop w2)
  clear S1 HB1
  go_upto_region 5 with (go_at_call 22; refine (H2.out).mono ?_; rintro e w3 ⟨v3, rfl, ho3, hb3⟩; obtain ⟨A3, c3, rfl, _, _, hr3, _⟩ := ho3.form)
  have S3 := Lib.hid (same_yes A3 (some ⟨w3.heap.size, 0, none⟩) 19 c3 19 _ (w3.heap.size + 1) [0, 2, 2, 0, 0, 0, 0, 0, 0, 1, 2, 0, 0, 0, 0, 0, 0, 0, 7] (w3.alloc (.cells #[.int .u8 0, .int .u8 2, .int .u8 2, .int .u8 0, .int .u8 0, .int .u8 0, .int .u8 0, .int .u8 0, .int .u8 0, .int .u8 1, .int .u8 2, .int .u8 0, .int .u8 0, .int .u8 0, .int .u8 0, .int .u8 0, .int .u8 0, .int .u8 0, .int .u8 7] 5)) (hr3.alloc (Nat.le_refl _) _) (RB.lit w3 5 (sp_bytes _ (by decide)) _ rfl) rfl (by decide))
  have HB3 := Lib.hid ((HB2.out.trans (hb3.mono HB2.out.size)).alloc (by have := HB2.out.size; have := hb3.size; omega) (.cells #[.int .u8 0, .int .u8 2, .int .u8 2, .int .u8 0, .int .u8 0, .int .u8 0, .int .u8 0, .int .u8 0, .int .u8 0, .int .u8 1, .int .u8 2, .int .u8 0, .int .u8 0, .int .u8 0, .int .u8 0, .int .u8 0, .int .u8 0, .int .u8 0, .int .u8 7] 5))
  clear ho3 hr3 hb3 H2 HB2
  go_upto_region 7 with (go_at_call 13; refine (S3.out).mono ?_; rintro e w4 ⟨rfl, n4, hw4⟩; have HB4 := Lib.hid (below_drewN HB3.out n4); rw [← hw4] at HB4; clear hw4)
  have H4 := Lib.hid (sp_rel w4 _ rfl #[.int .u8 0, .int .u8 0, .int .u8 0, .int .u8 3, .int .u8 0, .int .u8 0, .int .u8 0, .int .u8 4, .int .u8 0, .int .u8 5, .int .u8 0, .int .u8 0, .int .u8 0, .int .u8 0, .int .u8 0, .int .u8 0, .int .u8 0, .int .u8 2, .int .u8 0, .int .u8 0, .int .u8 0, .int .u8 0, .int .u8 0, .int .u8 0, .int .u8 0, .int .u8 0, .int .u8 0, .int .u8 0, .int .u8 0, .int .u8 0] rfl)
  clear S3 HB3
  go_wp2_with (go_at_call 20; refine (H4.out).mono ?_; rintro e w5 ⟨rfl, hb5⟩; have HB5 := Lib.hid ((HB4.out.trans (hb5.mono HB4.out.size)).alloc (by have := HB4.out.size; have := hb5.size; omega) (.cells #[.bool true, .int .i64 3, .int .i64 4, .int .i64 (-1), .int .i64 (-1), .int .i64 1, .int .i64 (-1), .int .i64 5, .int .i64 (-1)] 44)); clear hb5)
  go_ret
  exact ⟨rfl, HB5.out⟩
end Go.Proofs.Ytpoaokkmmoeekaa
