/- The document's PutNode; the law's sameNode. -/
import Derived.Test.YtpoaokkmmoeekaaRcRefNA
namespace Go.Proofs.Ytpoaokkmmoeekaa
open Go.RowKit
set_option linter.unusedVariables false

set_option maxRecDepth 100000 in
set_option maxHeartbeats 8000000 in
theorem refPutNode_any (A : Option Addr) (cap B : Nat) (r p : Int) (L : List Int) (w : World) (hr : RL ivl w B A L) (hB : B ≤ w.heap.size) (hcap : L.length ≤ cap) (hm : cap ≤ maxLen) :
    Calls Try.prog 12 #[.agg #[.int .i64 r, .int .i64 p, .slice A L.length cap]] w (RefPut (refNodeOk r p L) (refNodeB r p L) w) := by
  have h0 := (St.start Zf w).newBlk 24 #[.int .i64 r, .int .i64 p, .slice A L.length cap]
  obtain ⟨wo, hwo⟩ : ∃ wo, wo = w.alloc (.cells #[.int .i64 r, .int .i64 p, .slice A L.length cap] 24) := ⟨_, rfl⟩
  rw [← hwo] at h0
  have HF : Hid (∀ (l : List Ass) (W : World), St Zf (BlkA w.heap.size 24 #[.int .i64 r, .int .i64 p, .slice A L.length cap] :: l) w W → W.cell? ⟨w.heap.size, 0, none⟩ = some (.int .i64 r) ∧ W.cell? ⟨w.heap.size, 1, none⟩ = some (.int .i64 p) ∧ W.cell? ⟨w.heap.size, 2, none⟩ = some (.slice A L.length cap)) := Lib.hid fun l W h => cells3 h
  have q1 := ptrB_short r
  have q2 := ptrB_short p
  have q3 := labB_length L
  have Hq : Hid ((ptrB r).length ≤ 8 ∧ (ptrB p).length ≤ 8 ∧ (labB L).length = 8) := Lib.hid ⟨q1, q2, q3⟩
  unfold RefPut refNodeOk refNodeB
  obtain ⟨b1, hb1⟩ : ∃ b, b = inR (-1) 2048 r := ⟨_, rfl⟩
  obtain ⟨b2, hb2⟩ : ∃ b, b = inR (-1) 65536 p := ⟨_, rfl⟩
  obtain ⟨b3, hb3⟩ : ∃ b, b = labR L := ⟨_, rfl⟩
  have HI1 := fun w1 => Lib.hid (In_any r (-1) 2048 w1)
  have HI2 := fun w1 => Lib.hid (In_any p (-1) 65536 w1)
  have HI3 := Lib.hid (LabelsRight_any A cap _ L wo (h0.rl hr hB) hcap hm)
  rw [← hb1] at HI1 ⊢
  rw [← hb2] at HI2 ⊢
  rw [← hb3] at HI3 ⊢
  have HRL := Lib.hid hr
  have hd0 : ∀ n, St Zf [BlkA w.heap.size 24 #[.int .i64 r, .int .i64 p, .slice A L.length cap]] w (wo.drewN n).drew := fun n => (h0.drewN n).drew
  obtain ⟨c0, c1, c2⟩ := HF.out _ _ h0
  have Hwo := Lib.hid hwo
  have H0 := Lib.hid h0
  clear hwo hb1 hb2 hb3 h0 q1 q2 q3 hr
  cases b1
  · have e0 : ((false && b2 && b3) = true) = False := by simp
    simp only [e0, if_false]
    have hno := refPut_no H0.out.bel _ rfl
    go_enter Try.func12, Try.ntmps12
    go_upto_region 1 with fail
    rw [← Hwo.out]
    go_wp2_with (first | (go_at_call 28; with_reducible refine ((HI1 _).out).mono ?_; rintro e w' ⟨rfl, rfl⟩))
    go_ret2
    exact ⟨_, rfl, hno⟩
  · cases b2
    · have e0 : ((true && false && b3) = true) = False := by simp
      simp only [e0, if_false]
      have hno := refPut_no H0.out.bel _ rfl
      go_enter Try.func12, Try.ntmps12
      go_upto_region 1 with fail
      rw [← Hwo.out]
      go_wp2_with (first | (go_at_call 28; with_reducible refine ((HI1 _).out).mono ?_; rintro e w' ⟨rfl, rfl⟩) | (go_at_call 28; with_reducible refine ((HI2 _).out).mono ?_; rintro e w' ⟨rfl, rfl⟩))
      go_ret2
      exact ⟨_, rfl, hno⟩
    · cases b3
      · have e0 : ((true && true && false) = true) = False := by simp
        simp only [e0, if_false]
        go_enter Try.func12, Try.ntmps12
        go_upto_region 1 with fail
        rw [← Hwo.out]
        go_wp2_with (first | (go_at_call 28; with_reducible refine ((HI1 _).out).mono ?_; rintro e w' ⟨rfl, rfl⟩) | (go_at_call 28; with_reducible refine ((HI2 _).out).mono ?_; rintro e w' ⟨rfl, rfl⟩) | (go_at_call 29; refine (HI3.out).mono ?_; rintro e w3 ⟨rfl, n3, hw3⟩; have h3 := Lib.hid (H0.out.drewN n3); rw [← hw3] at h3; have hno := refPut_no h3.out.bel _ rfl; clear hw3))
        go_ret2
        exact ⟨_, rfl, hno⟩
      · have e0 : ((true && true && true) = true) = True := by simp
        simp only [e0, if_true]
        go_enter Try.func12, Try.ntmps12
        go_upto_region 1 with fail
        rw [← Hwo.out]
        go_upto_region 3 with (first | (go_at_call 28; with_reducible refine ((HI1 _).out).mono ?_; rintro e w' ⟨rfl, rfl⟩) | (go_at_call 28; with_reducible refine ((HI2 _).out).mono ?_; rintro e w' ⟨rfl, rfl⟩) | (go_at_call 29; refine (HI3.out).mono ?_; rintro e w3 ⟨rfl, n3, hw3⟩; have h3 := Lib.hid (H0.out.drewN n3); rw [← hw3] at h3; clear hw3))
        obtain ⟨_, _, _⟩ := HF.out _ _ h3.out
        have hd3 := h3.out.drew
        go_region_held3 (fun w' => w'.cell? ⟨w.heap.size, 0, none⟩ = some (.int .i64 r) ∧ w'.cell? ⟨w.heap.size, 1, none⟩ = some (.int .i64 p)) (go_keep)
          ((first
            | (go_at_call 31; with_reducible refine (Ptr_any hd3 r).mono ?_; rintro e w4 ⟨v4, rfl, h4⟩; have k4 := HF.out _ _ h4.swap; obtain ⟨_, _, _⟩ := k4)
            | (go_at_call 31; with_reducible refine (Ptr_any h4 p).mono ?_; rintro e w5 ⟨v5, rfl, h5⟩; have k5 := HF.out _ _ h5.bring2; obtain ⟨_, _, _⟩ := k5)
            | (go_at_call 30; with_reducible refine (Joined_any h5.swap (by have := Hq.out; omega)).mono ?_; rintro e w6 ⟨v6, rfl, h6⟩; have k6 := HF.out _ _ h6.bring2; obtain ⟨_, _, _⟩ := k6)))
        have g6 := h6.swap.drop
        have HLB := Lib.hid (LabelBytes_any A cap B L w6 (g6.rl HRL.out hB) (by have := g6.size; omega) hcap hm)
        go_wp2_with (first
          | (go_at_call 32; refine (HLB.out).mono ?_; rintro e w7 ⟨v7, rfl, ho7, hb7⟩; have h7 := g6.newOb ho7 hb7; clear ho7 hb7)
          | (go_at_call 30; refine (Joined_any h7.swap (by have := Hq.out; simp only [List.length_append]; omega)).mono ?_; rintro e w8 ⟨v8, rfl, h8⟩))
        go_ret2
        exact ⟨_, rfl, h8.own, h8.bel⟩
end Go.Proofs.Ytpoaokkmmoeekaa
