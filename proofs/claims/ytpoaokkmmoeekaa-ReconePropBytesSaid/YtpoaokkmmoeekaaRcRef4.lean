/- The document's PutProp. -/
import Derived.Test.YtpoaokkmmoeekaaRcPurePropB
namespace Go.Proofs.Ytpoaokkmmoeekaa
open Go.RowKit
set_option linter.unusedVariables false

theorem St.newLit {S : Fp} {l : List Ass} {w0 w : World} [Stable (Sep l)] (h : St S l w0 w) (e : TypeId) (y : Int) (n : Nat) (hy : y = (n : Int)) (hn : n < 256) (N : Nat) (hN : w.heap.size = N) : St S (ObA e (.slice (some ⟨N, 0, none⟩) 1 1) [n] :: l) w0 (w.alloc (.cells #[.int .u8 y] e)) := by
  subst hN hy
  exact h.newOb ⟨IsBytes.single hn, World.ownsRow_lit w #[.int .u8 (n : Int)] 1 (Nat.le_refl _) (by unfold maxLen; omega) rfl⟩ ((Below.refl _ _).alloc (Nat.le_refl _) _)

set_option maxRecDepth 100000 in
set_option maxHeartbeats 8000000 in
theorem refPutProp_any (x : PropC) (w : World) : Calls Try.prog 23 #[.agg #[.int .i64 x.ky, .int .i64 x.kd, .int .i64 x.nu, .int .i64 x.bl, .int .i64 x.pv, .int .i64 x.nx]] w (RefPut (refPropOk x) (refPropB x) w) := by
  have h0 := (St.start Zf w).newBlk 53 #[.int .i64 x.ky, .int .i64 x.kd, .int .i64 x.nu, .int .i64 x.bl, .int .i64 x.pv, .int .i64 x.nx]
  obtain ⟨wo, hwo⟩ : ∃ wo, wo = w.alloc (.cells #[.int .i64 x.ky, .int .i64 x.kd, .int .i64 x.nu, .int .i64 x.bl, .int .i64 x.pv, .int .i64 x.nx] 53) := ⟨_, rfl⟩
  rw [← hwo] at h0
  have HF : Hid (∀ (l : List Ass) (W : World), St Zf (BlkA w.heap.size 53 #[.int .i64 x.ky, .int .i64 x.kd, .int .i64 x.nu, .int .i64 x.bl, .int .i64 x.pv, .int .i64 x.nx] :: l) w W → W.cell? ⟨w.heap.size, 0, none⟩ = some (.int .i64 x.ky) ∧ W.cell? ⟨w.heap.size, 1, none⟩ = some (.int .i64 x.kd) ∧ W.cell? ⟨w.heap.size, 2, none⟩ = some (.int .i64 x.nu) ∧ W.cell? ⟨w.heap.size, 3, none⟩ = some (.int .i64 x.bl) ∧ W.cell? ⟨w.heap.size, 4, none⟩ = some (.int .i64 x.pv) ∧ W.cell? ⟨w.heap.size, 5, none⟩ = some (.int .i64 x.nx)) := Lib.hid fun l W h => by
    have hb := h.blk
    exact ⟨by rw [hb.cell 0]; rfl, by rw [hb.cell 1]; rfl, by rw [hb.cell 2]; rfl, by rw [hb.cell 3]; rfl, by rw [hb.cell 4]; rfl, by rw [hb.cell 5]; rfl⟩
  have hno := fun (W : World) (hb : Below w.heap.size w W) => refPut_no hb _ rfl
  have q1 := putNum_short 2 (uIn x.ky)
  have q2 := putNum_short 8 (uIn x.nu)
  have q3 := putNum_short 8 (uIn (wrap64 (x.bl + 1)))
  have q4 := ptrB_short x.pv
  have q5 := ptrB_short x.nx
  have Hq : Hid ((putNum 2 (uIn x.ky)).length ≤ 8 ∧ (putNum 8 (uIn x.nu)).length ≤ 8 ∧ (putNum 8 (uIn (wrap64 (x.bl + 1)))).length ≤ 8 ∧ (ptrB x.pv).length ≤ 8 ∧ (ptrB x.nx).length ≤ 8) := Lib.hid ⟨q1, q2, q3, q4, q5⟩
  have u1 := uIn_eq x.ky
  have u2 := uIn_eq x.nu
  have u3 := uIn_eq (wrap64 (x.bl + 1))
  have ub : IntKind.u8.wrap x.kd = ((uIn x.kd % 256 : Nat) : Int) := by unfold uIn; rw [wrapU8, wrapU64]; omega
  have ub2 : uIn x.kd % 256 < 256 := Nat.mod_lt _ (by omega)
  have M1 := Lib.hid (uIn_lt x.ky)
  have M2 := Lib.hid (uIn_lt x.nu)
  have M3 := Lib.hid (uIn_lt (wrap64 (x.bl + 1)))
  unfold RefPut refPropOk refPropB
  obtain ⟨y1, hy1⟩ : ∃ y, y = uIn x.ky := ⟨_, rfl⟩
  obtain ⟨y2, hy2⟩ : ∃ y, y = uIn x.nu := ⟨_, rfl⟩
  obtain ⟨y3, hy3⟩ : ∃ y, y = uIn (wrap64 (x.bl + 1)) := ⟨_, rfl⟩
  obtain ⟨yk, hyk⟩ : ∃ y, y = uIn x.kd % 256 := ⟨_, rfl⟩
  rw [← hy1] at Hq u1 M1 ⊢
  rw [← hy2] at Hq u2 M2 ⊢
  rw [← hy3] at Hq u3 M3 ⊢
  rw [← hyk] at ub ub2 ⊢
  have HYK := Lib.hid ub2
  obtain ⟨b1, hb1⟩ : ∃ b, b = inR 0 200 x.ky := ⟨_, rfl⟩
  obtain ⟨b2, hb2⟩ : ∃ b, b = inR 1 9 x.kd := ⟨_, rfl⟩
  obtain ⟨b3, hb3⟩ : ∃ b, b = inR (-1) 65536 x.pv := ⟨_, rfl⟩
  obtain ⟨b4, hb4⟩ : ∃ b, b = inR (-1) 65536 x.nx := ⟨_, rfl⟩
  obtain ⟨b5, hb5⟩ : ∃ b, b = inR 0 65536 x.bl := ⟨_, rfl⟩
  have HI1 := fun w1 => Lib.hid (In_any x.ky 0 200 w1)
  have HI2 := fun w1 => Lib.hid (In_any x.kd 1 9 w1)
  have HI3 := fun w1 => Lib.hid (In_any x.pv (-1) 65536 w1)
  have HI4 := fun w1 => Lib.hid (In_any x.nx (-1) 65536 w1)
  have HI5 := fun w1 => Lib.hid (In_any x.bl 0 65536 w1)
  rw [← hb1] at HI1 ⊢
  rw [← hb2] at HI2 ⊢
  rw [← hb3] at HI3 ⊢
  rw [← hb4] at HI4 ⊢
  rw [← hb5] at HI5 ⊢
  have hd0 : St Zf [BlkA w.heap.size 53 #[.int .i64 x.ky, .int .i64 x.kd, .int .i64 x.nu, .int .i64 x.bl, .int .i64 x.pv, .int .i64 x.nx]] w wo.drew := h0.drew
  have hl0 := hd0.newLit 5 _ yk rfl HYK.out _ rfl
  obtain ⟨c0, c1, c2, c3, c4, c5⟩ := HF.out _ _ h0
  obtain ⟨k0, k1, -⟩ := HF.out _ _ hl0.swap
  have Hwo := Lib.hid hwo
  have H0 := Lib.hid h0
  have HD0 := Lib.hid hd0
  have HL0 := Lib.hid hl0
  clear hwo hb1 hb2 hb3 hb4 hb5 h0 q1 q2 q3 q4 q5 ub2 hy1 hy2 hy3 hyk hd0 hl0
  cases b1
  · have e0 : ((false && b2 && b3 && b4 && (if x.kd < 4 then decide (x.bl = -1) else decide (x.nu = 0) && b5)) = true) = False := by simp
    simp only [e0, if_false]
    have hno := hno _ H0.out.bel
    go_enter Try.func23, Try.ntmps23
    go_upto_region 1 with fail
    rw [← Hwo.out]
    go_wp2_with (first | (go_at_call 28; with_reducible refine ((HI1 _).out).mono ?_; rintro e w' ⟨rfl, rfl⟩))
    go_ret2
    exact ⟨_, rfl, hno⟩
  · cases b2
    · have e0 : ((true && false && b3 && b4 && (if x.kd < 4 then decide (x.bl = -1) else decide (x.nu = 0) && b5)) = true) = False := by simp
      simp only [e0, if_false]
      have hno := hno _ H0.out.bel
      go_enter Try.func23, Try.ntmps23
      go_upto_region 1 with fail
      rw [← Hwo.out]
      go_wp2_with (first | (go_at_call 28; with_reducible refine ((HI1 _).out).mono ?_; rintro e w' ⟨rfl, rfl⟩) | (go_at_call 28; with_reducible refine ((HI2 _).out).mono ?_; rintro e w' ⟨rfl, rfl⟩))
      go_ret2
      exact ⟨_, rfl, hno⟩
    · cases b3
      · have e0 : ((true && true && false && b4 && (if x.kd < 4 then decide (x.bl = -1) else decide (x.nu = 0) && b5)) = true) = False := by simp
        simp only [e0, if_false]
        have hno := hno _ H0.out.bel
        go_enter Try.func23, Try.ntmps23
        go_upto_region 1 with fail
        rw [← Hwo.out]
        go_wp2_with (first | (go_at_call 28; with_reducible refine ((HI1 _).out).mono ?_; rintro e w' ⟨rfl, rfl⟩) | (go_at_call 28; with_reducible refine ((HI2 _).out).mono ?_; rintro e w' ⟨rfl, rfl⟩) | (go_at_call 28; with_reducible refine ((HI3 _).out).mono ?_; rintro e w' ⟨rfl, rfl⟩))
        go_ret2
        exact ⟨_, rfl, hno⟩
      · cases b4
        · have e0 : ((true && true && true && false && (if x.kd < 4 then decide (x.bl = -1) else decide (x.nu = 0) && b5)) = true) = False := by simp
          simp only [e0, if_false]
          have hno := hno _ H0.out.bel
          go_enter Try.func23, Try.ntmps23
          go_upto_region 1 with fail
          rw [← Hwo.out]
          go_wp2_with (first | (go_at_call 28; with_reducible refine ((HI1 _).out).mono ?_; rintro e w' ⟨rfl, rfl⟩) | (go_at_call 28; with_reducible refine ((HI2 _).out).mono ?_; rintro e w' ⟨rfl, rfl⟩) | (go_at_call 28; with_reducible refine ((HI3 _).out).mono ?_; rintro e w' ⟨rfl, rfl⟩) | (go_at_call 28; with_reducible refine ((HI4 _).out).mono ?_; rintro e w' ⟨rfl, rfl⟩))
          go_ret2
          exact ⟨_, rfl, hno⟩
        · by_cases hk : x.kd < 4
          · by_cases hb : x.bl = -1
            · have e0 : ((true && true && true && true && (if x.kd < 4 then decide (x.bl = -1) else decide (x.nu = 0) && b5)) = true) = True := by simp [hk, hb]
              simp only [e0, if_true]
              simp only [if_pos hk]
              have hnb1 : (x.bl != -1) = false := by simp [hb]
              clear hb e0
              go_enter Try.func23, Try.ntmps23
              go_upto_region 1 with fail
              rw [← Hwo.out]
              go_upto_region 3 with (first | (go_at_call 28; with_reducible refine ((HI1 _).out).mono ?_; rintro e w' ⟨rfl, rfl⟩) | (go_at_call 28; with_reducible refine ((HI2 _).out).mono ?_; rintro e w' ⟨rfl, rfl⟩) | (go_at_call 28; with_reducible refine ((HI3 _).out).mono ?_; rintro e w' ⟨rfl, rfl⟩) | (go_at_call 28; with_reducible refine ((HI4 _).out).mono ?_; rintro e w' ⟨rfl, rfl⟩))
              go_region_held3 (fun w' => w'.cell? ⟨w.heap.size, 0, none⟩ = some (.int .i64 x.ky) ∧ w'.cell? ⟨w.heap.size, 1, none⟩ = some (.int .i64 x.kd)) (go_keep)
                ((first
                  | (go_at_call 45; refine (refNumA HD0.out 2 y1 M1.out).mono ?_; rintro e w1 ⟨v1, rfl, h1⟩; have g1 := (h1.newLit 5 _ yk rfl HYK.out _ rfl).swap; have z1 := HF.out _ _ h1.swap; obtain ⟨_, _, -⟩ := z1; have z2 := HF.out _ _ g1.bring2; obtain ⟨_, _, -⟩ := z2)
                  | (go_at_call 45; refine (refNumA HL0.out 2 y1 M1.out).mono ?_; rintro e w1 ⟨v1, rfl, g1⟩; have z1 := HF.out _ _ g1.bring2; obtain ⟨_, _, -⟩ := z1)
                  | (go_at_call 30; refine (Joined_any g1 (by have := Hq.out; simp only [List.length_cons, List.length_nil]; omega)).mono ?_; rintro e w3 ⟨v3, rfl, h3⟩; have z3 := HF.out _ _ h3.bring2; obtain ⟨_, _, -⟩ := z3)))
              all_goals
                have g3 := h3.swap.drop
                obtain ⟨_, d1, d2, d3, d4, d5⟩ := HF.out _ _ g3.swap
                have hnb := hno _ g3.bel
                go_upto_region 11 with (first | (go_at_call 45; refine (refNumA g3 8 y2 M2.out).mono ?_; rintro e w4 ⟨v4, rfl, h4⟩) | (go_at_call 30; refine (Joined_any h4.swap (by have := Hq.out; simp only [List.length_append, List.length_cons, List.length_nil]; omega)).mono ?_; rintro e w5 ⟨v5, rfl, h5⟩; have g5 := h5.swap.drop; clear d1 d2 d3 d4 d5; obtain ⟨_, d1, d2, d3, d4, d5⟩ := HF.out _ _ g5.swap; clear h4 h5))
                go_upto_region 12 with (first | (go_at_call 31; refine (Ptr_any g5 x.pv).mono ?_; rintro e w6 ⟨v6, rfl, h6⟩) | (go_at_call 30; refine (Joined_any h6.swap (by have := Hq.out; simp only [List.length_append, List.length_cons, List.length_nil]; omega)).mono ?_; rintro e w7 ⟨v7, rfl, h7⟩; have g7 := h7.swap.drop; clear d1 d2 d3 d4 d5; obtain ⟨_, d1, d2, d3, d4, d5⟩ := HF.out _ _ g7.swap; clear h6 h7))
                go_wp2_with (first | (go_at_call 31; refine (Ptr_any g7 x.nx).mono ?_; rintro e w8 ⟨v8, rfl, h8⟩) | (go_at_call 30; refine (Joined_any h8.swap (by have := Hq.out; simp only [List.length_append, List.length_cons, List.length_nil]; omega)).mono ?_; rintro e w9 ⟨v9, rfl, h9⟩; have g9 := h9.swap.drop; clear d1 d2 d3 d4 d5; obtain ⟨_, d1, d2, d3, d4, d5⟩ := HF.out _ _ g9.swap; clear h8 h9))
                go_ret2
                exact ⟨_, rfl, g9.own, g9.bel⟩
            · have e0 : ((true && true && true && true && (if x.kd < 4 then decide (x.bl = -1) else decide (x.nu = 0) && b5)) = true) = False := by simp [hk, hb]
              simp only [e0, if_false]
              have hnb1 : (x.bl != -1) = true := by simpa using hb
              clear hb e0
              go_enter Try.func23, Try.ntmps23
              go_upto_region 1 with fail
              rw [← Hwo.out]
              go_upto_region 3 with (first | (go_at_call 28; with_reducible refine ((HI1 _).out).mono ?_; rintro e w' ⟨rfl, rfl⟩) | (go_at_call 28; with_reducible refine ((HI2 _).out).mono ?_; rintro e w' ⟨rfl, rfl⟩) | (go_at_call 28; with_reducible refine ((HI3 _).out).mono ?_; rintro e w' ⟨rfl, rfl⟩) | (go_at_call 28; with_reducible refine ((HI4 _).out).mono ?_; rintro e w' ⟨rfl, rfl⟩))
              go_region_held3 (fun w' => w'.cell? ⟨w.heap.size, 0, none⟩ = some (.int .i64 x.ky) ∧ w'.cell? ⟨w.heap.size, 1, none⟩ = some (.int .i64 x.kd)) (go_keep)
                ((first
                  | (go_at_call 45; refine (refNumA HD0.out 2 y1 M1.out).mono ?_; rintro e w1 ⟨v1, rfl, h1⟩; have g1 := (h1.newLit 5 _ yk rfl HYK.out _ rfl).swap; have z1 := HF.out _ _ h1.swap; obtain ⟨_, _, -⟩ := z1; have z2 := HF.out _ _ g1.bring2; obtain ⟨_, _, -⟩ := z2)
                  | (go_at_call 45; refine (refNumA HL0.out 2 y1 M1.out).mono ?_; rintro e w1 ⟨v1, rfl, g1⟩; have z1 := HF.out _ _ g1.bring2; obtain ⟨_, _, -⟩ := z1)
                  | (go_at_call 30; refine (Joined_any g1 (by have := Hq.out; simp only [List.length_cons, List.length_nil]; omega)).mono ?_; rintro e w3 ⟨v3, rfl, h3⟩; have z3 := HF.out _ _ h3.bring2; obtain ⟨_, _, -⟩ := z3)))
              all_goals
                have g3 := h3.swap.drop
                obtain ⟨_, d1, d2, d3, d4, d5⟩ := HF.out _ _ g3.swap
                have hnb := hno _ g3.bel
                go_wp2
                go_ret2
                exact ⟨_, rfl, hnb⟩
          · by_cases hn : x.nu = 0
            · cases b5
              · have e0 : ((true && true && true && true && (if x.kd < 4 then decide (x.bl = -1) else decide (x.nu = 0) && false)) = true) = False := by simp [hk]
                simp only [e0, if_false]
                have hn1 : (x.nu != 0) = false := by simp [hn]
                clear hn e0
                go_enter Try.func23, Try.ntmps23
                go_upto_region 1 with fail
                rw [← Hwo.out]
                go_upto_region 3 with (first | (go_at_call 28; with_reducible refine ((HI1 _).out).mono ?_; rintro e w' ⟨rfl, rfl⟩) | (go_at_call 28; with_reducible refine ((HI2 _).out).mono ?_; rintro e w' ⟨rfl, rfl⟩) | (go_at_call 28; with_reducible refine ((HI3 _).out).mono ?_; rintro e w' ⟨rfl, rfl⟩) | (go_at_call 28; with_reducible refine ((HI4 _).out).mono ?_; rintro e w' ⟨rfl, rfl⟩))
                go_region_held3 (fun w' => w'.cell? ⟨w.heap.size, 0, none⟩ = some (.int .i64 x.ky) ∧ w'.cell? ⟨w.heap.size, 1, none⟩ = some (.int .i64 x.kd)) (go_keep)
                  ((first
                    | (go_at_call 45; refine (refNumA HD0.out 2 y1 M1.out).mono ?_; rintro e w1 ⟨v1, rfl, h1⟩; have g1 := (h1.newLit 5 _ yk rfl HYK.out _ rfl).swap; have z1 := HF.out _ _ h1.swap; obtain ⟨_, _, -⟩ := z1; have z2 := HF.out _ _ g1.bring2; obtain ⟨_, _, -⟩ := z2)
                    | (go_at_call 45; refine (refNumA HL0.out 2 y1 M1.out).mono ?_; rintro e w1 ⟨v1, rfl, g1⟩; have z1 := HF.out _ _ g1.bring2; obtain ⟨_, _, -⟩ := z1)
                    | (go_at_call 30; refine (Joined_any g1 (by have := Hq.out; simp only [List.length_cons, List.length_nil]; omega)).mono ?_; rintro e w3 ⟨v3, rfl, h3⟩; have z3 := HF.out _ _ h3.bring2; obtain ⟨_, _, -⟩ := z3)))
                all_goals
                  have g3 := h3.swap.drop
                  obtain ⟨_, d1, d2, d3, d4, d5⟩ := HF.out _ _ g3.swap
                  have hnb := hno _ g3.bel
                  go_wp2_with (go_at_call 28; refine ((HI5 _).out).mono ?_; rintro e w' ⟨rfl, rfl⟩)
                  go_ret2
                  exact ⟨_, rfl, hnb⟩
              · have e0 : ((true && true && true && true && (if x.kd < 4 then decide (x.bl = -1) else decide (x.nu = 0) && true)) = true) = True := by simp [hk, hn]
                simp only [e0, if_true]
                simp only [if_neg hk]
                have hn1 : (x.nu != 0) = false := by simp [hn]
                clear hn e0
                go_enter Try.func23, Try.ntmps23
                go_upto_region 1 with fail
                rw [← Hwo.out]
                go_upto_region 3 with (first | (go_at_call 28; with_reducible refine ((HI1 _).out).mono ?_; rintro e w' ⟨rfl, rfl⟩) | (go_at_call 28; with_reducible refine ((HI2 _).out).mono ?_; rintro e w' ⟨rfl, rfl⟩) | (go_at_call 28; with_reducible refine ((HI3 _).out).mono ?_; rintro e w' ⟨rfl, rfl⟩) | (go_at_call 28; with_reducible refine ((HI4 _).out).mono ?_; rintro e w' ⟨rfl, rfl⟩))
                go_region_held3 (fun w' => w'.cell? ⟨w.heap.size, 0, none⟩ = some (.int .i64 x.ky) ∧ w'.cell? ⟨w.heap.size, 1, none⟩ = some (.int .i64 x.kd)) (go_keep)
                  ((first
                    | (go_at_call 45; refine (refNumA HD0.out 2 y1 M1.out).mono ?_; rintro e w1 ⟨v1, rfl, h1⟩; have g1 := (h1.newLit 5 _ yk rfl HYK.out _ rfl).swap; have z1 := HF.out _ _ h1.swap; obtain ⟨_, _, -⟩ := z1; have z2 := HF.out _ _ g1.bring2; obtain ⟨_, _, -⟩ := z2)
                    | (go_at_call 45; refine (refNumA HL0.out 2 y1 M1.out).mono ?_; rintro e w1 ⟨v1, rfl, g1⟩; have z1 := HF.out _ _ g1.bring2; obtain ⟨_, _, -⟩ := z1)
                    | (go_at_call 30; refine (Joined_any g1 (by have := Hq.out; simp only [List.length_cons, List.length_nil]; omega)).mono ?_; rintro e w3 ⟨v3, rfl, h3⟩; have z3 := HF.out _ _ h3.bring2; obtain ⟨_, _, -⟩ := z3)))
                all_goals
                  have g3 := h3.swap.drop
                  obtain ⟨_, d1, d2, d3, d4, d5⟩ := HF.out _ _ g3.swap
                  have hnb := hno _ g3.bel
                  go_upto_region 11 with (first | (go_at_call 28; refine ((HI5 _).out).mono ?_; rintro e w' ⟨rfl, rfl⟩) | (go_at_call 45; refine (refNumA g3 8 y3 M3.out).mono ?_; rintro e w4 ⟨v4, rfl, h4⟩) | (go_at_call 30; refine (Joined_any h4.swap (by have := Hq.out; simp only [List.length_append, List.length_cons, List.length_nil]; omega)).mono ?_; rintro e w5 ⟨v5, rfl, h5⟩; have g5 := h5.swap.drop; clear d1 d2 d3 d4 d5; obtain ⟨_, d1, d2, d3, d4, d5⟩ := HF.out _ _ g5.swap; clear h4 h5))
                  go_upto_region 12 with (first | (go_at_call 31; refine (Ptr_any g5 x.pv).mono ?_; rintro e w6 ⟨v6, rfl, h6⟩) | (go_at_call 30; refine (Joined_any h6.swap (by have := Hq.out; simp only [List.length_append, List.length_cons, List.length_nil]; omega)).mono ?_; rintro e w7 ⟨v7, rfl, h7⟩; have g7 := h7.swap.drop; clear d1 d2 d3 d4 d5; obtain ⟨_, d1, d2, d3, d4, d5⟩ := HF.out _ _ g7.swap; clear h6 h7))
                  go_wp2_with (first | (go_at_call 31; refine (Ptr_any g7 x.nx).mono ?_; rintro e w8 ⟨v8, rfl, h8⟩) | (go_at_call 30; refine (Joined_any h8.swap (by have := Hq.out; simp only [List.length_append, List.length_cons, List.length_nil]; omega)).mono ?_; rintro e w9 ⟨v9, rfl, h9⟩; have g9 := h9.swap.drop; clear d1 d2 d3 d4 d5; obtain ⟨_, d1, d2, d3, d4, d5⟩ := HF.out _ _ g9.swap; clear h8 h9))
                  go_ret2
                  exact ⟨_, rfl, g9.own, g9.bel⟩
            · have e0 : ((true && true && true && true && (if x.kd < 4 then decide (x.bl = -1) else decide (x.nu = 0) && b5)) = true) = False := by simp [hk, hn]
              simp only [e0, if_false]
              have hn1 : (x.nu != 0) = true := by simpa using hn
              clear hn e0
              go_enter Try.func23, Try.ntmps23
              go_upto_region 1 with fail
              rw [← Hwo.out]
              go_upto_region 3 with (first | (go_at_call 28; with_reducible refine ((HI1 _).out).mono ?_; rintro e w' ⟨rfl, rfl⟩) | (go_at_call 28; with_reducible refine ((HI2 _).out).mono ?_; rintro e w' ⟨rfl, rfl⟩) | (go_at_call 28; with_reducible refine ((HI3 _).out).mono ?_; rintro e w' ⟨rfl, rfl⟩) | (go_at_call 28; with_reducible refine ((HI4 _).out).mono ?_; rintro e w' ⟨rfl, rfl⟩))
              go_region_held3 (fun w' => w'.cell? ⟨w.heap.size, 0, none⟩ = some (.int .i64 x.ky) ∧ w'.cell? ⟨w.heap.size, 1, none⟩ = some (.int .i64 x.kd)) (go_keep)
                ((first
                  | (go_at_call 45; refine (refNumA HD0.out 2 y1 M1.out).mono ?_; rintro e w1 ⟨v1, rfl, h1⟩; have g1 := (h1.newLit 5 _ yk rfl HYK.out _ rfl).swap; have z1 := HF.out _ _ h1.swap; obtain ⟨_, _, -⟩ := z1; have z2 := HF.out _ _ g1.bring2; obtain ⟨_, _, -⟩ := z2)
                  | (go_at_call 45; refine (refNumA HL0.out 2 y1 M1.out).mono ?_; rintro e w1 ⟨v1, rfl, g1⟩; have z1 := HF.out _ _ g1.bring2; obtain ⟨_, _, -⟩ := z1)
                  | (go_at_call 30; refine (Joined_any g1 (by have := Hq.out; simp only [List.length_cons, List.length_nil]; omega)).mono ?_; rintro e w3 ⟨v3, rfl, h3⟩; have z3 := HF.out _ _ h3.bring2; obtain ⟨_, _, -⟩ := z3)))
              all_goals
                have g3 := h3.swap.drop
                obtain ⟨_, d1, d2, d3, d4, d5⟩ := HF.out _ _ g3.swap
                have hnb := hno _ g3.bel
                go_wp2
                go_ret2
                exact ⟨_, rfl, hnb⟩

/-- the program's Put, in the document's words -/
theorem putProp_clean (x : PropC) (hx : PropI x) (w : World) : Calls Try.prog 22 #[.agg #[.int .i64 x.ky, .int .i64 x.kd, .int .i64 x.nu, .int .i64 x.bl, .int .i64 x.pv, .int .i64 x.nx]] w (RefPut (refPropOk x) (refPropB x) w) := by
  have h := PutProp_any x w
  rw [putPropE_eq x hx] at h
  refine h.mono ?_
  rintro e w' ⟨v, rfl, ho, hb⟩
  refine ⟨v, rfl, ?_, hb⟩
  by_cases hok : refPropOk x = true
  · rw [if_pos hok, if_pos rfl, putPropB_eq x hx hok] at ho
    rw [if_pos hok]
    exact ho
  · rw [if_neg hok, if_neg (by decide)] at ho
    rw [if_neg hok]
    exact ho
end Go.Proofs.Ytpoaokkmmoeekaa
