/- The document's PutGroup. Written by mkrdref.py. -/
import Derived.Test.YtmiiogailnjfpaaRcRef3
import Derived.Test.YtmiiogailnjfpaaRdPureGroup
namespace Go.Proofs.Ytmiiogailnjfpaa
open Go.RowKit
set_option linter.unusedVariables false

set_option maxRecDepth 100000 in
set_option maxHeartbeats 4000000 in
theorem refPutGroup_any (x : GroupC) (w : World) : Calls Try.prog 27 #[.agg #[.bool x.lv, .int .i64 x.ty, .int .i64 x.ow, .int .i64 x.ou, .int .i64 x.ni, .int .i64 x.lp, .int .i64 x.nx]] w (RefPut (refGroupOk x) (refGroupB x) w) := by
  have h0 := (St.start Zf w).newBlk 56 #[.bool x.lv, .int .i64 x.ty, .int .i64 x.ow, .int .i64 x.ou, .int .i64 x.ni, .int .i64 x.lp, .int .i64 x.nx]
  obtain ⟨wo, hwo⟩ : ∃ wo, wo = w.alloc (.cells #[.bool x.lv, .int .i64 x.ty, .int .i64 x.ow, .int .i64 x.ou, .int .i64 x.ni, .int .i64 x.lp, .int .i64 x.nx] 56) := ⟨_, rfl⟩
  rw [← hwo] at h0
  have HF : Hid (∀ (l : List Ass) (W : World), St Zf (BlkA w.heap.size 56 #[.bool x.lv, .int .i64 x.ty, .int .i64 x.ow, .int .i64 x.ou, .int .i64 x.ni, .int .i64 x.lp, .int .i64 x.nx] :: l) w W → W.cell? ⟨w.heap.size, 0, none⟩ = some (.bool x.lv) ∧ W.cell? ⟨w.heap.size, 1, none⟩ = some (.int .i64 x.ty) ∧ W.cell? ⟨w.heap.size, 2, none⟩ = some (.int .i64 x.ow) ∧ W.cell? ⟨w.heap.size, 3, none⟩ = some (.int .i64 x.ou) ∧ W.cell? ⟨w.heap.size, 4, none⟩ = some (.int .i64 x.ni) ∧ W.cell? ⟨w.heap.size, 5, none⟩ = some (.int .i64 x.lp) ∧ W.cell? ⟨w.heap.size, 6, none⟩ = some (.int .i64 x.nx)) := Lib.hid fun l W h => by
    have hb := h.blk
    exact ⟨by rw [hb.cell 0]; rfl, by rw [hb.cell 1]; rfl, by rw [hb.cell 2]; rfl, by rw [hb.cell 3]; rfl, by rw [hb.cell 4]; rfl, by rw [hb.cell 5]; rfl, by rw [hb.cell 6]; rfl⟩
  have q0 := putNum_short 2 (uIn x.ty)
  have q1 := putNum_short 4 (uIn x.ow)
  have q2 := ptrB_short x.ou
  have q3 := ptrB_short x.ni
  have q4 := ptrB_short x.lp
  have q5 := ptrB_short x.nx
  unfold RefPut refGroupOk refGroupB
  obtain ⟨b0, hb0⟩ : ∃ b, b = inR 0 200 x.ty := ⟨_, rfl⟩
  have H0 := fun w1 => Lib.hid (In_any x.ty 0 200 w1)
  rw [← hb0] at H0 ⊢
  obtain ⟨b1, hb1⟩ : ∃ b, b = inR 0 1024 x.ow := ⟨_, rfl⟩
  have H1 := fun w1 => Lib.hid (In_any x.ow 0 1024 w1)
  rw [← hb1] at H1 ⊢
  obtain ⟨b2, hb2⟩ : ∃ b, b = inR (-1) 2048 x.ou := ⟨_, rfl⟩
  have H2 := fun w1 => Lib.hid (In_any x.ou (-1) 2048 w1)
  rw [← hb2] at H2 ⊢
  obtain ⟨b3, hb3⟩ : ∃ b, b = inR (-1) 2048 x.ni := ⟨_, rfl⟩
  have H3 := fun w1 => Lib.hid (In_any x.ni (-1) 2048 w1)
  rw [← hb3] at H3 ⊢
  obtain ⟨b4, hb4⟩ : ∃ b, b = inR (-1) 2048 x.lp := ⟨_, rfl⟩
  have H4 := fun w1 => Lib.hid (In_any x.lp (-1) 2048 w1)
  rw [← hb4] at H4 ⊢
  obtain ⟨b5, hb5⟩ : ∃ b, b = inR (-1) 65536 x.nx := ⟨_, rfl⟩
  have H5 := fun w1 => Lib.hid (In_any x.nx (-1) 65536 w1)
  rw [← hb5] at H5 ⊢
  have e1 := uIn_eq x.ty
  have e2 := uIn_eq x.ow
  have m1 := uIn_lt x.ty
  have m2 := uIn_lt x.ow
  obtain ⟨y1, hy1⟩ : ∃ y, y = uIn x.ty := ⟨_, rfl⟩
  obtain ⟨y2, hy2⟩ : ∃ y, y = uIn x.ow := ⟨_, rfl⟩
  rw [← hy1] at q0 e1 m1 ⊢
  rw [← hy2] at q1 e2 m2 ⊢
  have M1 := Lib.hid m1
  have M2 := Lib.hid m2
  have hb0' : St Zf [BlkA w.heap.size 56 #[.bool x.lv, .int .i64 x.ty, .int .i64 x.ow, .int .i64 x.ou, .int .i64 x.ni, .int .i64 x.lp, .int .i64 x.nx]] w wo.drew := h0.drew
  have Hq : Hid ((putNum 2 y1).length ≤ 8 ∧ (putNum 4 y2).length ≤ 8 ∧ (ptrB x.ou).length ≤ 8 ∧ (ptrB x.ni).length ≤ 8 ∧ (ptrB x.lp).length ≤ 8 ∧ (ptrB x.nx).length ≤ 8) := Lib.hid ⟨q0, q1, q2, q3, q4, q5⟩
  obtain ⟨c0, c1, c2, c3, c4, c5, c6⟩ := HF.out _ _ h0
  have Hwo := Lib.hid hwo
  have g1 := Lib.hid (refPut_no h0.bel _ rfl)
  clear hwo h0 q0 q1 q2 q3 q4 q5 m1 m2 hy1 hy2 hb0 hb1 hb2 hb3 hb4 hb5
  cases b0
  · have e0 : ((false && b1 && b2 && b3 && b4 && b5) = true) = False := by simp
    simp only [e0, if_false]
    clear e1 e2 M1 M2 hb0' Hq
    go_enter Try.func27, Try.ntmps27
    go_upto_region 1 with fail
    rw [← Hwo.out]
    go_wp2_with (first | (go_at_call 32; with_reducible refine ((H0 _).out).mono ?_; rintro e w' ⟨rfl, rfl⟩))
    go_ret2
    exact ⟨_, rfl, g1.out⟩
  · cases b1
    · have e0 : ((true && false && b2 && b3 && b4 && b5) = true) = False := by simp
      simp only [e0, if_false]
      clear e1 e2 M1 M2 hb0' Hq
      go_enter Try.func27, Try.ntmps27
      go_upto_region 1 with fail
      rw [← Hwo.out]
      go_wp2_with (first | (go_at_call 32; with_reducible refine ((H0 _).out).mono ?_; rintro e w' ⟨rfl, rfl⟩) | (go_at_call 32; with_reducible refine ((H1 _).out).mono ?_; rintro e w' ⟨rfl, rfl⟩))
      go_ret2
      exact ⟨_, rfl, g1.out⟩
    · cases b2
      · have e0 : ((true && true && false && b3 && b4 && b5) = true) = False := by simp
        simp only [e0, if_false]
        clear e1 e2 M1 M2 hb0' Hq
        go_enter Try.func27, Try.ntmps27
        go_upto_region 1 with fail
        rw [← Hwo.out]
        go_wp2_with (first | (go_at_call 32; with_reducible refine ((H0 _).out).mono ?_; rintro e w' ⟨rfl, rfl⟩) | (go_at_call 32; with_reducible refine ((H1 _).out).mono ?_; rintro e w' ⟨rfl, rfl⟩) | (go_at_call 32; with_reducible refine ((H2 _).out).mono ?_; rintro e w' ⟨rfl, rfl⟩))
        go_ret2
        exact ⟨_, rfl, g1.out⟩
      · cases b3
        · have e0 : ((true && true && true && false && b4 && b5) = true) = False := by simp
          simp only [e0, if_false]
          clear e1 e2 M1 M2 hb0' Hq
          go_enter Try.func27, Try.ntmps27
          go_upto_region 1 with fail
          rw [← Hwo.out]
          go_wp2_with (first | (go_at_call 32; with_reducible refine ((H0 _).out).mono ?_; rintro e w' ⟨rfl, rfl⟩) | (go_at_call 32; with_reducible refine ((H1 _).out).mono ?_; rintro e w' ⟨rfl, rfl⟩) | (go_at_call 32; with_reducible refine ((H2 _).out).mono ?_; rintro e w' ⟨rfl, rfl⟩) | (go_at_call 32; with_reducible refine ((H3 _).out).mono ?_; rintro e w' ⟨rfl, rfl⟩))
          go_ret2
          exact ⟨_, rfl, g1.out⟩
        · cases b4
          · have e0 : ((true && true && true && true && false && b5) = true) = False := by simp
            simp only [e0, if_false]
            clear e1 e2 M1 M2 hb0' Hq
            go_enter Try.func27, Try.ntmps27
            go_upto_region 1 with fail
            rw [← Hwo.out]
            go_wp2_with (first | (go_at_call 32; with_reducible refine ((H0 _).out).mono ?_; rintro e w' ⟨rfl, rfl⟩) | (go_at_call 32; with_reducible refine ((H1 _).out).mono ?_; rintro e w' ⟨rfl, rfl⟩) | (go_at_call 32; with_reducible refine ((H2 _).out).mono ?_; rintro e w' ⟨rfl, rfl⟩) | (go_at_call 32; with_reducible refine ((H3 _).out).mono ?_; rintro e w' ⟨rfl, rfl⟩) | (go_at_call 32; with_reducible refine ((H4 _).out).mono ?_; rintro e w' ⟨rfl, rfl⟩))
            go_ret2
            exact ⟨_, rfl, g1.out⟩
          · cases b5
            · have e0 : ((true && true && true && true && true && false) = true) = False := by simp
              simp only [e0, if_false]
              clear e1 e2 M1 M2 hb0' Hq
              go_enter Try.func27, Try.ntmps27
              go_upto_region 1 with fail
              rw [← Hwo.out]
              go_wp2_with (first | (go_at_call 32; with_reducible refine ((H0 _).out).mono ?_; rintro e w' ⟨rfl, rfl⟩) | (go_at_call 32; with_reducible refine ((H1 _).out).mono ?_; rintro e w' ⟨rfl, rfl⟩) | (go_at_call 32; with_reducible refine ((H2 _).out).mono ?_; rintro e w' ⟨rfl, rfl⟩) | (go_at_call 32; with_reducible refine ((H3 _).out).mono ?_; rintro e w' ⟨rfl, rfl⟩) | (go_at_call 32; with_reducible refine ((H4 _).out).mono ?_; rintro e w' ⟨rfl, rfl⟩) | (go_at_call 32; with_reducible refine ((H5 _).out).mono ?_; rintro e w' ⟨rfl, rfl⟩))
              go_ret2
              exact ⟨_, rfl, g1.out⟩
            · have e0 : ((true && true && true && true && true && true) = true) = True := by simp
              simp only [e0, if_true]
              go_enter Try.func27, Try.ntmps27
              go_upto_region 1 with fail
              rw [← Hwo.out]
              go_upto_region 3 with (first | (go_at_call 32; with_reducible refine ((H0 _).out).mono ?_; rintro e w' ⟨rfl, rfl⟩) | (go_at_call 32; with_reducible refine ((H1 _).out).mono ?_; rintro e w' ⟨rfl, rfl⟩) | (go_at_call 32; with_reducible refine ((H2 _).out).mono ?_; rintro e w' ⟨rfl, rfl⟩) | (go_at_call 32; with_reducible refine ((H3 _).out).mono ?_; rintro e w' ⟨rfl, rfl⟩) | (go_at_call 32; with_reducible refine ((H4 _).out).mono ?_; rintro e w' ⟨rfl, rfl⟩) | (go_at_call 32; with_reducible refine ((H5 _).out).mono ?_; rintro e w' ⟨rfl, rfl⟩))
              clear c3 c4 c5 c6 c0
              go_region_held3 (fun w' => w'.cell? ⟨w.heap.size, 1, none⟩ = some (.int .i64 x.ty) ∧ w'.cell? ⟨w.heap.size, 2, none⟩ = some (.int .i64 x.ow)) (go_keep)
                ((first
                  | (go_at_call 50; with_reducible refine (refNumA hb0' 2 y1 M1.out).mono ?_; rintro e w1 ⟨v1, rfl, h1⟩; have k1 := HF.out _ _ h1.swap; obtain ⟨-, _, _, -⟩ := k1)
                  | (go_at_call 50; with_reducible refine (refNumA h1 4 y2 M2.out).mono ?_; rintro e w2 ⟨v2, rfl, h2⟩; have k2 := HF.out _ _ h2.bring2; obtain ⟨-, _, _, -⟩ := k2)
                  | (go_at_call 34; with_reducible refine (Joined_any h2.swap (by have := Hq.out; omega)).mono ?_; rintro e w3 ⟨v3, rfl, h3⟩; have k3 := HF.out _ _ h3.bring2; obtain ⟨-, _, _, -⟩ := k3)))
              have g3 := h3.swap.drop
              clear h1 h2 h3 hb0' c1 c2
              obtain ⟨-, -, -, c3, c4, c5, c6⟩ := HF.out _ _ g3.swap
              go_upto_region 5 with (first
                | (go_at_call 35; refine (Ptr_any g3 x.ou).mono ?_; rintro e w4 ⟨v4, rfl, h4⟩)
                | (go_at_call 34; refine (Joined_any h4.swap (by have := Hq.out; simp only [List.length_append]; omega)).mono ?_; rintro e w5 ⟨v5, rfl, h5⟩; have g5 := h5.swap.drop; clear c3 c4 c5 c6; obtain ⟨-, -, -, c3, c4, c5, c6⟩ := HF.out _ _ g5.swap; clear h4))
              go_upto_region 6 with (first
                | (go_at_call 35; refine (Ptr_any g5 x.ni).mono ?_; rintro e w6 ⟨v6, rfl, h6⟩)
                | (go_at_call 34; refine (Joined_any h6.swap (by have := Hq.out; simp only [List.length_append]; omega)).mono ?_; rintro e w7 ⟨v7, rfl, h7⟩; have g7 := h7.swap.drop; clear c3 c4 c5 c6; obtain ⟨-, -, -, c3, c4, c5, c6⟩ := HF.out _ _ g7.swap; clear h6))
              go_upto_region 7 with (first
                | (go_at_call 35; refine (Ptr_any g7 x.lp).mono ?_; rintro e w8 ⟨v8, rfl, h8⟩)
                | (go_at_call 34; refine (Joined_any h8.swap (by have := Hq.out; simp only [List.length_append]; omega)).mono ?_; rintro e w9 ⟨v9, rfl, h9⟩; have g9 := h9.swap.drop; clear c3 c4 c5 c6; obtain ⟨-, -, -, c3, c4, c5, c6⟩ := HF.out _ _ g9.swap; clear h8))
              go_wp2_with (first
                | (go_at_call 35; refine (Ptr_any g9 x.nx).mono ?_; rintro e w10 ⟨v10, rfl, h10⟩)
                | (go_at_call 34; refine (Joined_any h10.swap (by have := Hq.out; simp only [List.length_append]; omega)).mono ?_; rintro e w11 ⟨v11, rfl, h11⟩; have g11 := h11.swap.drop; clear c3 c4 c5 c6; obtain ⟨-, -, -, c3, c4, c5, c6⟩ := HF.out _ _ g11.swap; clear h10))
              go_ret2
              exact ⟨_, rfl, g11.own, g11.bel⟩
end Go.Proofs.Ytmiiogailnjfpaa
