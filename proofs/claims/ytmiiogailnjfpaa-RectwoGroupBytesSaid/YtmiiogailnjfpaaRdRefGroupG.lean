/- The document's GetGroup. Written by mkrdrefg.py. -/
import Derived.Test.YtmiiogailnjfpaaRdGet
import Derived.Test.YtmiiogailnjfpaaRdRefGroup
import Derived.Test.YtmiiogailnjfpaaRdPureGetGroup
import Derived.Test.YtmiiogailnjfpaaStr
namespace Go.Proofs.Ytmiiogailnjfpaa
open Go.RowKit
set_option linter.unusedVariables false

def refGrpGE (bs : List Nat) : Int := if bs.length = 22 then (if refGroupOk (groupC bs) = true then 0 else 41) else 4
theorem getGroupE_eq (bs : List Nat) (hb : IsBytes bs) : getGroupE bs = refGrpGE bs := by
  unfold refGrpGE
  split
  · next h => exact (getGroup_read bs hb h).1
  · next h => exact getGroup_len bs h
theorem refGrpGE_zero {bs : List Nat} (h : refGrpGE bs = 0) : bs.length = 22 ∧ refGroupOk (groupC bs) = true := by
  unfold refGrpGE at h
  split at h
  · next h1 =>
    split at h
    · next h2 => exact ⟨h1, h2⟩
    · cases h
  · cases h

set_option maxRecDepth 100000 in
set_option maxHeartbeats 4000000 in
theorem refGetGroup_any (A : Option Addr) (cap B : Nat) (bs : List Nat) (w : World) (h : RB w B A bs) (hB : B ≤ w.heap.size) (hc : bs.length ≤ cap) (hm : cap ≤ maxLen) :
    Calls Try.prog 29 #[.slice A bs.length cap] w (GroupReadB (groupC bs) (refGrpGE bs) w) := by
  have h0 := ((St.start Zf w).newBlk 56 #[.bool false, .int .i64 0, .int .i64 0, .int .i64 0, .int .i64 0, .int .i64 0, .int .i64 0]).newBlk 56 #[.bool false, .int .i64 0, .int .i64 0, .int .i64 0, .int .i64 0, .int .i64 0, .int .i64 0]
  have e0 : (w.alloc (.cells #[.bool false, .int .i64 0, .int .i64 0, .int .i64 0, .int .i64 0, .int .i64 0, .int .i64 0] 56)).heap.size = w.heap.size + 1 := by simp
  rw [e0] at h0
  obtain ⟨wo, hwo⟩ : ∃ wo, wo = (w.alloc (.cells #[.bool false, .int .i64 0, .int .i64 0, .int .i64 0, .int .i64 0, .int .i64 0, .int .i64 0] 56)).alloc (.cells #[.bool false, .int .i64 0, .int .i64 0, .int .i64 0, .int .i64 0, .int .i64 0, .int .i64 0] 56) := ⟨_, rfl⟩
  rw [← hwo] at h0
  have hi7 : (Try.prog.info? 56).map (·.size) = some 7 := by kernel_rfl
  have oz : (#[.bool false, .int .i64 0, .int .i64 0, .int .i64 0, .int .i64 0, .int .i64 0, .int .i64 0] : Array Value).all (·.oneCell') = true := by rw [← Array.all_toList]; rfl
  have Hwo := Lib.hid hwo
  have H0 := Lib.hid h0
  unfold GroupReadB refGrpGE
  by_cases hl : bs.length = 22
  · rw [if_pos hl]
    have hrr := h0.rb h hB
    have hby := h.1
    have hP : ∀ W, Calls Try.prog 27 #[.agg #[.bool true, .int .i64 (groupC bs).ty, .int .i64 (groupC bs).ow, .int .i64 (groupC bs).ou, .int .i64 (groupC bs).ni, .int .i64 (groupC bs).lp, .int .i64 (groupC bs).nx]] W (RefPut (refGroupOk (groupC bs)) (refGroupB (groupC bs)) W) := fun W => refPutGroup_any (groupC bs) W
    rw [groupB_back bs hby hl] at hP
    unfold RefPut at hP
    obtain ⟨ok, hok⟩ : ∃ ok, ok = refGroupOk (groupC bs) := ⟨_, rfl⟩
    rw [← hok] at hP ⊢
    have l0 := atN_lt bs hby 0 2 (by omega) (by omega)
    have a0 := at15_any A cap B bs 0 2 wo hrr hc hm (by omega) (by omega)
    obtain ⟨z0, hz0⟩ : ∃ z, z = (groupC bs).ty := ⟨_, rfl⟩
    obtain ⟨t0, ht0⟩ : ∃ t : Int, t = ((atN bs 0 2 : Nat) : Int) := ⟨_, rfl⟩
    rw [← ht0] at a0
    have a0 : Hid (Calls Try.prog 39 #[.slice A bs.length cap, .int .i64 0, .int .i64 2] wo fun e w' => e = .returned (.int .i64 t0) ∧ wo = w') := Lib.hid a0
    have s0 : t0 = z0 := by rw [ht0, hz0]; rfl
    have l1 := atN_lt bs hby 2 4 (by omega) (by omega)
    have a1 := at15_any A cap B bs 2 4 wo hrr hc hm (by omega) (by omega)
    obtain ⟨z1, hz1⟩ : ∃ z, z = (groupC bs).ow := ⟨_, rfl⟩
    obtain ⟨t1, ht1⟩ : ∃ t : Int, t = ((atN bs 2 4 : Nat) : Int) := ⟨_, rfl⟩
    rw [← ht1] at a1
    have a1 : Hid (Calls Try.prog 39 #[.slice A bs.length cap, .int .i64 2, .int .i64 4] wo fun e w' => e = .returned (.int .i64 t1) ∧ wo = w') := Lib.hid a1
    have s1 : t1 = z1 := by rw [ht1, hz1]; rfl
    have l2 := atN_lt bs hby 6 4 (by omega) (by omega)
    have a2 := at15_any A cap B bs 6 4 wo hrr hc hm (by omega) (by omega)
    obtain ⟨z2, hz2⟩ : ∃ z, z = (groupC bs).ou := ⟨_, rfl⟩
    obtain ⟨t2, ht2⟩ : ∃ t : Int, t = ((atN bs 6 4 : Nat) : Int) := ⟨_, rfl⟩
    rw [← ht2] at a2
    have a2 : Hid (Calls Try.prog 39 #[.slice A bs.length cap, .int .i64 6, .int .i64 4] wo fun e w' => e = .returned (.int .i64 t2) ∧ wo = w') := Lib.hid a2
    have s2 : wrap64 (t2 - 1) = z2 := by rw [ht2, hz2]; exact sub_one l2
    have l3 := atN_lt bs hby 10 4 (by omega) (by omega)
    have a3 := at15_any A cap B bs 10 4 wo hrr hc hm (by omega) (by omega)
    obtain ⟨z3, hz3⟩ : ∃ z, z = (groupC bs).ni := ⟨_, rfl⟩
    obtain ⟨t3, ht3⟩ : ∃ t : Int, t = ((atN bs 10 4 : Nat) : Int) := ⟨_, rfl⟩
    rw [← ht3] at a3
    have a3 : Hid (Calls Try.prog 39 #[.slice A bs.length cap, .int .i64 10, .int .i64 4] wo fun e w' => e = .returned (.int .i64 t3) ∧ wo = w') := Lib.hid a3
    have s3 : wrap64 (t3 - 1) = z3 := by rw [ht3, hz3]; exact sub_one l3
    have l4 := atN_lt bs hby 14 4 (by omega) (by omega)
    have a4 := at15_any A cap B bs 14 4 wo hrr hc hm (by omega) (by omega)
    obtain ⟨z4, hz4⟩ : ∃ z, z = (groupC bs).lp := ⟨_, rfl⟩
    obtain ⟨t4, ht4⟩ : ∃ t : Int, t = ((atN bs 14 4 : Nat) : Int) := ⟨_, rfl⟩
    rw [← ht4] at a4
    have a4 : Hid (Calls Try.prog 39 #[.slice A bs.length cap, .int .i64 14, .int .i64 4] wo fun e w' => e = .returned (.int .i64 t4) ∧ wo = w') := Lib.hid a4
    have s4 : wrap64 (t4 - 1) = z4 := by rw [ht4, hz4]; exact sub_one l4
    have l5 := atN_lt bs hby 18 4 (by omega) (by omega)
    have a5 := at15_any A cap B bs 18 4 wo hrr hc hm (by omega) (by omega)
    obtain ⟨z5, hz5⟩ : ∃ z, z = (groupC bs).nx := ⟨_, rfl⟩
    obtain ⟨t5, ht5⟩ : ∃ t : Int, t = ((atN bs 18 4 : Nat) : Int) := ⟨_, rfl⟩
    rw [← ht5] at a5
    have a5 : Hid (Calls Try.prog 39 #[.slice A bs.length cap, .int .i64 18, .int .i64 4] wo fun e w' => e = .returned (.int .i64 t5) ∧ wo = w') := Lib.hid a5
    have s5 : wrap64 (t5 - 1) = z5 := by rw [ht5, hz5]; exact sub_one l5
    rw [← hz0, ← hz1, ← hz2, ← hz3, ← hz4, ← hz5] at hP ⊢
    subst s0 s1
    have HS := fun (W : World) (l : List Ass) (hs : St Zf l w W) => Lib.hid (hs.rb h hB)
    have hl' : ((bs.length : Int) != 22) = false := by simp [hl]
    have HLEN := Lib.hid hl
    have h5 := Lib.hid (h0.newBlk 56 #[.bool true, .int .i64 t0, .int .i64 t1, .int .i64 z2, .int .i64 z3, .int .i64 z4, .int .i64 z5])
    clear hok hrr h0 hwo e0 hl l0 l1 l2 l3 l4 l5 hz0 hz1 hz2 hz3 hz4 hz5 ht0 ht1 ht2 ht3 ht4 ht5
    cases ok
    · simp only [Bool.false_eq_true, if_false] at hP
      simp only [Bool.false_eq_true, if_false]
      have HP := fun W => Lib.hid (hP W)
      clear hP
      go_enter Try.func29, Try.ntmps29
      go_upto_region 2 with fail
      rw [← Hwo.out]
      go_upto_region 5 with (first | (go_at_call 39; with_reducible refine (a0.out).mono ?_; rintro e w' ⟨rfl, rfl⟩) | (go_at_call 39; with_reducible refine (a1.out).mono ?_; rintro e w' ⟨rfl, rfl⟩) | (go_at_call 39; with_reducible refine (a2.out).mono ?_; rintro e w' ⟨rfl, rfl⟩) | (go_at_call 39; with_reducible refine (a3.out).mono ?_; rintro e w' ⟨rfl, rfl⟩) | (go_at_call 39; with_reducible refine (a4.out).mono ?_; rintro e w' ⟨rfl, rfl⟩) | (go_at_call 39; with_reducible refine (a5.out).mono ?_; rintro e w' ⟨rfl, rfl⟩))
      obtain ⟨w5, hw5⟩ : ∃ w5, w5 = wo.alloc (.cells #[.bool true, .int .i64 t0, .int .i64 t1, .int .i64 z2, .int .i64 z3, .int .i64 z4, .int .i64 z5] 56) := ⟨_, rfl⟩
      rw [← hw5] at h5 ⊢
      have rb5 := (HS w5 _ h5.out).out
      have r5 := h5.out.blk
      clear hw5 a0 a1 a2 a3 a4 a5 s2 s3 s4 s5
      go_upto_region 6 with (first
        | (refine wpList_load_row rfl 56 _ rfl wo.heap.size rfl 56 #[.bool true, .int .i64 t0, .int .i64 t1, .int .i64 z2, .int .i64 z3, .int .i64 z4, .int .i64 z5] (0, 0) _ r5 Try.underlying56 rfl hi7 ?_)
        | (go_at_call 27; refine ((HP w5).out).mono ?_; rintro e w6 ⟨v6, rfl, ho6, hb6⟩; have h6 := Lib.hid (h5.out.newOb ho6 hb6); obtain ⟨A6, c6, rfl, -, -, hr6, -⟩ := ho6.form; clear ho6 hb6))
      have rb6 := (HS w6 _ h6.out).out
      have r6 := h6.out.bring2.blk
      have r7 := h6.out.bring3.blk
      have H9 := Lib.hid (h6.out.bring3.setRow #[.bool false, .int .i64 0, .int .i64 0, .int .i64 0, .int .i64 0, .int .i64 0, .int .i64 0])
      clear rb5 r5 rb6 hr6
      go_wp2_with (first
        | (refine wpList_load_row rfl 56 _ rfl (w.heap.size + 1) rfl 56 #[.bool false, .int .i64 0, .int .i64 0, .int .i64 0, .int .i64 0, .int .i64 0, .int .i64 0] (0, 0) _ r6 Try.underlying56 rfl hi7 ?_)
        | (refine wpList_store_row rfl 56 _ _ rfl w.heap.size #[.bool false, .int .i64 0, .int .i64 0, .int .i64 0, .int .i64 0, .int .i64 0, .int .i64 0] rfl rfl 56 #[.bool false, .int .i64 0, .int .i64 0, .int .i64 0, .int .i64 0, .int .i64 0, .int .i64 0] r7 hi7 rfl oz ?_))
      refine bodyPost_ret (results_row_tmp rfl _ _ w.heap.size 56 #[.bool false, .int .i64 0, .int .i64 0, .int .i64 0, .int .i64 0, .int .i64 0, .int .i64 0] _ rfl H9.out.blk Try.underlying56 rfl hi7) rfl ?_
      exact ⟨rfl, H9.out.drop.drop.drop.drop⟩
    · simp only [if_true] at hP
      simp only [if_true]
      have HP := fun W => Lib.hid (hP W)
      clear hP
      go_enter Try.func29, Try.ntmps29
      go_upto_region 2 with fail
      rw [← Hwo.out]
      go_upto_region 5 with (first | (go_at_call 39; with_reducible refine (a0.out).mono ?_; rintro e w' ⟨rfl, rfl⟩) | (go_at_call 39; with_reducible refine (a1.out).mono ?_; rintro e w' ⟨rfl, rfl⟩) | (go_at_call 39; with_reducible refine (a2.out).mono ?_; rintro e w' ⟨rfl, rfl⟩) | (go_at_call 39; with_reducible refine (a3.out).mono ?_; rintro e w' ⟨rfl, rfl⟩) | (go_at_call 39; with_reducible refine (a4.out).mono ?_; rintro e w' ⟨rfl, rfl⟩) | (go_at_call 39; with_reducible refine (a5.out).mono ?_; rintro e w' ⟨rfl, rfl⟩))
      obtain ⟨w5, hw5⟩ : ∃ w5, w5 = wo.alloc (.cells #[.bool true, .int .i64 t0, .int .i64 t1, .int .i64 z2, .int .i64 z3, .int .i64 z4, .int .i64 z5] 56) := ⟨_, rfl⟩
      rw [← hw5] at h5 ⊢
      have rb5 := (HS w5 _ h5.out).out
      have r5 := h5.out.blk
      clear hw5 a0 a1 a2 a3 a4 a5 s2 s3 s4 s5
      go_upto_region 6 with (first
        | (refine wpList_load_row rfl 56 _ rfl wo.heap.size rfl 56 #[.bool true, .int .i64 t0, .int .i64 t1, .int .i64 z2, .int .i64 z3, .int .i64 z4, .int .i64 z5] (0, 0) _ r5 Try.underlying56 rfl hi7 ?_)
        | (go_at_call 27; refine ((HP w5).out).mono ?_; rintro e w6 ⟨v6, rfl, ho6, hb6⟩; have h6 := Lib.hid (h5.out.newOb ho6 hb6); obtain ⟨A6, c6, rfl, -, -, hr6, -⟩ := ho6.form; clear ho6 hb6))
      have rb6 := (HS w6 _ h6.out).out
      have q1 := run_bytes_str (P := Try.prog) w6 24 9 5 c6 Try.underlying24 Try.underlying5 Try.underlying9 hr6
      have q2 := run_bytes_str (P := Try.prog) w6 24 9 5 cap Try.underlying24 Try.underlying5 Try.underlying9 rb6
      have r6 := h6.out.swap.blk
      have r7 := h6.out.bring3.blk
      have H9 := Lib.hid (h6.out.bring3.setRow #[.bool true, .int .i64 t0, .int .i64 t1, .int .i64 z2, .int .i64 z3, .int .i64 z4, .int .i64 z5])
      clear rb5 r5 rb6 hr6
      go_wp2_with (first
        | (refine wpList_load_row rfl 56 _ rfl wo.heap.size rfl 56 #[.bool true, .int .i64 t0, .int .i64 t1, .int .i64 z2, .int .i64 z3, .int .i64 z4, .int .i64 z5] (0, 0) _ r6 Try.underlying56 rfl hi7 ?_)
        | (refine wpList_store_row rfl 56 _ _ rfl w.heap.size #[.bool true, .int .i64 t0, .int .i64 t1, .int .i64 z2, .int .i64 z3, .int .i64 z4, .int .i64 z5] rfl rfl 56 #[.bool false, .int .i64 0, .int .i64 0, .int .i64 0, .int .i64 0, .int .i64 0, .int .i64 0] r7 hi7 rfl (by rw [← Array.all_toList]; rfl) ?_))
      refine bodyPost_ret (results_row_tmp rfl _ _ w.heap.size 56 #[.bool true, .int .i64 t0, .int .i64 t1, .int .i64 z2, .int .i64 z3, .int .i64 z4, .int .i64 z5] _ rfl H9.out.blk Try.underlying56 rfl hi7) rfl ?_
      exact ⟨rfl, H9.out.drop.drop.drop.drop⟩
  · rw [if_neg hl]
    have hl' : ((bs.length : Int) != 22) = true := by rw [bne_iff_ne]; omega
    have hb1 := h0.blk
    have hb2 := h0.swap.blk
    have H9 := Lib.hid (h0.swap.setRow #[.bool false, .int .i64 0, .int .i64 0, .int .i64 0, .int .i64 0, .int .i64 0, .int .i64 0])
    clear hl hwo e0 h0
    go_enter Try.func29, Try.ntmps29
    go_upto_region 2 with fail
    rw [← Hwo.out]
    go_wp2_with (first
      | (refine wpList_load_row rfl 56 _ rfl (w.heap.size + 1) rfl 56 #[.bool false, .int .i64 0, .int .i64 0, .int .i64 0, .int .i64 0, .int .i64 0, .int .i64 0] (0, 0) _ hb1 Try.underlying56 rfl hi7 ?_)
      | (refine wpList_store_row rfl 56 _ _ rfl w.heap.size #[.bool false, .int .i64 0, .int .i64 0, .int .i64 0, .int .i64 0, .int .i64 0, .int .i64 0] rfl rfl 56 #[.bool false, .int .i64 0, .int .i64 0, .int .i64 0, .int .i64 0, .int .i64 0, .int .i64 0] hb2 hi7 rfl oz ?_))
    refine bodyPost_ret (results_row_tmp rfl _ _ w.heap.size 56 #[.bool false, .int .i64 0, .int .i64 0, .int .i64 0, .int .i64 0, .int .i64 0, .int .i64 0] _ rfl H9.out.blk Try.underlying56 rfl hi7) rfl ?_
    exact ⟨rfl, H9.out.drop.drop⟩
end Go.Proofs.Ytmiiogailnjfpaa
