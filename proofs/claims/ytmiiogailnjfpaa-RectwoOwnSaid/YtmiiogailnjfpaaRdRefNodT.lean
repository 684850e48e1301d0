/- The document's PutNode of version 2. Written by mkrdrefn.py. -/
import Derived.Test.YtmiiogailnjfpaaRdRefRelT
import Derived.Test.YtmiiogailnjfpaaRdPureNod
import Derived.Test.YtmiiogailnjfpaaRdSpeak
namespace Go.Proofs.Ytmiiogailnjfpaa
open Go.RowKit
set_option linter.unusedVariables false

set_option maxRecDepth 100000 in
set_option maxHeartbeats 4000000 in
theorem refPutNodT_false (f o : Int) (A : Option Addr) (cap B : Nat) (L : List Int) (A2 : Option Addr) (cap2 B2 : Nat) (L2 : List Nat) (w : World) (hr : RL ivl w B A L) (hB : B ≤ w.heap.size) (hcap : L.length ≤ cap) (hm : cap ≤ maxLen) (hr2 : RB w B2 A2 L2) (hB2 : B2 ≤ w.heap.size) : Calls Try.prog 14 #[.agg #[.bool false, .int .i64 f, .int .i64 o, .slice A L.length cap, .slice A2 L2.length cap2]] w (RefPut (refNodTok ⟨false, f, o⟩ L L2) (refNodB ⟨false, f, o⟩ L ++ L2) w) := by
  have h0 := (St.start Zf w).newBlk 26 #[.bool false, .int .i64 f, .int .i64 o, .slice A L.length cap, .slice A2 L2.length cap2]
  obtain ⟨wo, hwo⟩ : ∃ wo, wo = w.alloc (.cells #[.bool false, .int .i64 f, .int .i64 o, .slice A L.length cap, .slice A2 L2.length cap2] 26) := ⟨_, rfl⟩
  rw [← hwo] at h0
  have HF : Hid (∀ (l : List Ass) (W : World), St Zf (BlkA w.heap.size 26 #[.bool false, .int .i64 f, .int .i64 o, .slice A L.length cap, .slice A2 L2.length cap2] :: l) w W → W.cell? ⟨w.heap.size, 0, none⟩ = some (.bool false) ∧ W.cell? ⟨w.heap.size, 1, none⟩ = some (.int .i64 f) ∧ W.cell? ⟨w.heap.size, 2, none⟩ = some (.int .i64 o) ∧ W.cell? ⟨w.heap.size, 3, none⟩ = some (.slice A L.length cap) ∧ W.cell? ⟨w.heap.size, 4, none⟩ = some (.slice A2 L2.length cap2)) := Lib.hid fun l W h => cellsnodT h
  have hlb := labB_length L
  have hp1 := ptrB_short f
  have hp2 := ptrB_short o
  unfold RefPut refNodTok refNodB
  have hlim : nodLim false = 2048 := rfl
  have h01 : [d01 false] = [0] := rfl
  simp only [hlim, h01]
  obtain ⟨b1, hb1⟩ : ∃ b, b = inR (-1) 2048 f := ⟨_, rfl⟩
  obtain ⟨b2, hb2⟩ : ∃ b, b = inR (-1) 65536 o := ⟨_, rfl⟩
  obtain ⟨b3, hb3⟩ : ∃ b, b = labR L := ⟨_, rfl⟩
  obtain ⟨b4, hb4⟩ : ∃ b, b = decide (L2.length = 48) := ⟨_, rfl⟩
  have hlen : ((L2.length : Int) != 48) = !b4 := by
    rw [hb4]
    by_cases h : L2.length = 48
    · rw [decide_eq_true h, h]; rfl
    · rw [decide_eq_false h]; rw [bne_iff_ne.2 (by omega)]; rfl
  have h48 : b4 = true → L2.length = 48 := fun h => by rw [hb4] at h; exact of_decide_eq_true h
  have H1 := fun w1 => Lib.hid (In_any f (-1) 2048 w1)
  have H2 := fun w1 => Lib.hid (In_any o (-1) 65536 w1)
  have HLR := Lib.hid (LabelsRight_any A cap B L wo (h0.rl hr hB) hcap hm)
  rw [← hb1] at H1 ⊢
  rw [← hb2] at H2 ⊢
  rw [← hb3] at HLR ⊢
  rw [← hb4]
  have HLB : Hid (∀ (l : List Ass) (W : World), Stable (Sep l) → St Zf l w W → Calls Try.prog 36 #[.slice A L.length cap] W fun e w' => ∃ v, e = .returned v ∧ St Zf (ObA 5 v (labB L) :: l) w w') := Lib.hid fun l W hst hW => (LabelBytes_any A cap B L W (hW.rl hr hB) (by have := hW.size; omega) hcap hm).mono (by
    rintro e w' ⟨v, rfl, ho, hb⟩
    exact ⟨v, rfl, hW.newOb ho hb⟩)
  have Hq : Hid ((labB L).length = 8 ∧ (ptrB f).length ≤ 8 ∧ (ptrB o).length ≤ 8) := Lib.hid ⟨hlb, hp1, hp2⟩
  have Hj : Hid (L2.length = 48 → ∀ (l : List Ass) (v : Value) (W : World), Stable (Sep l) → St Zf (ObA 5 v ([0] ++ ptrB f ++ ptrB o ++ labB L) :: l) w W → Calls Try.prog 34 #[v, .slice A2 L2.length cap2] W fun e w' => ∃ v', e = .returned v' ∧ St Zf (ObA 5 v' ([0] ++ ptrB f ++ ptrB o ++ labB L ++ L2) :: l) w w') := Lib.hid fun h l v W hst hW => JoinedF_any hW hr2 hB2 (by simp only [List.length_append, List.length_cons, List.length_nil]; omega)
  obtain ⟨c0, c1, c2, c3, c4⟩ := HF.out _ _ h0
  have Hwo := Lib.hid hwo
  have H0 := Lib.hid h0
  have g0 := Lib.hid (refPut_no h0.bel _ rfl)
  have HM := Lib.hid hm
  clear hwo hb1 hb2 hb3 hb4 hlb hp1 hp2 h0 hr hr2 hm hlim h01
  cases b1
  · have e0 : ((false && b2 && b3 && b4) = true) = False := by simp
    simp only [e0, if_false]
    clear h48 hlen
    go_enter Try.func14, Try.ntmps14
    go_upto_region 1 with fail
    rw [← Hwo.out]
    go_wp2_with (first | (go_at_call 32; with_reducible refine ((H1 _).out).mono ?_; rintro e w' ⟨rfl, rfl⟩))
    go_ret2
    exact ⟨_, rfl, g0.out⟩
  · cases b2
    · have e0 : ((true && false && b3 && b4) = true) = False := by simp
      simp only [e0, if_false]
      clear h48 hlen
      go_enter Try.func14, Try.ntmps14
      go_upto_region 1 with fail
      rw [← Hwo.out]
      go_wp2_with (first | (go_at_call 32; with_reducible refine ((H1 _).out).mono ?_; rintro e w' ⟨rfl, rfl⟩) | (go_at_call 32; with_reducible refine ((H2 _).out).mono ?_; rintro e w' ⟨rfl, rfl⟩))
      go_ret2
      exact ⟨_, rfl, g0.out⟩
    · cases b3
      · have e0 : ((true && true && false && b4) = true) = False := by simp
        simp only [e0, if_false]
        clear h48 hlen
        go_enter Try.func14, Try.ntmps14
        go_upto_region 1 with fail
        rw [← Hwo.out]
        go_wp2_with (first | (go_at_call 32; with_reducible refine ((H1 _).out).mono ?_; rintro e w' ⟨rfl, rfl⟩) | (go_at_call 32; with_reducible refine ((H2 _).out).mono ?_; rintro e w' ⟨rfl, rfl⟩) | (go_at_call 33; refine (HLR.out).mono ?_; rintro e w1 ⟨rfl, n1, hw1⟩; have h1 := H0.out.drewN n1; rw [← hw1] at h1; obtain ⟨c0, c1, c2, c3, c4⟩ := HF.out _ _ h1; have g1 := Lib.hid (refPut_no h1.bel _ rfl); have G1 := Lib.hid h1; clear h1 hw1))
        go_ret2
        exact ⟨_, rfl, g1.out⟩
      · cases b4
        · have e0 : ((true && true && true && false) = true) = False := by simp
          simp only [e0, if_false]
          clear h48
          have hlen : ((L2.length : Int) != 48) = true := hlen
          go_enter Try.func14, Try.ntmps14
          go_upto_region 1 with fail
          rw [← Hwo.out]
          go_wp2_with (first | (go_at_call 32; with_reducible refine ((H1 _).out).mono ?_; rintro e w' ⟨rfl, rfl⟩) | (go_at_call 32; with_reducible refine ((H2 _).out).mono ?_; rintro e w' ⟨rfl, rfl⟩) | (go_at_call 33; refine (HLR.out).mono ?_; rintro e w1 ⟨rfl, n1, hw1⟩; have h1 := H0.out.drewN n1; rw [← hw1] at h1; obtain ⟨c0, c1, c2, c3, c4⟩ := HF.out _ _ h1; have g1 := Lib.hid (refPut_no h1.bel _ rfl); have G1 := Lib.hid h1; clear h1 hw1))
          go_ret2
          exact ⟨_, rfl, g1.out⟩
        · have e0 : ((true && true && true && true) = true) = True := by simp
          simp only [e0, if_true]
          have hlen : ((L2.length : Int) != 48) = false := hlen
          have HJ := Lib.hid (Hj.out (h48 rfl))
          clear Hj h48
          go_enter Try.func14, Try.ntmps14
          go_upto_region 1 with fail
          rw [← Hwo.out]
          go_upto_region 6 with (first | (go_at_call 32; with_reducible refine ((H1 _).out).mono ?_; rintro e w' ⟨rfl, rfl⟩) | (go_at_call 32; with_reducible refine ((H2 _).out).mono ?_; rintro e w' ⟨rfl, rfl⟩) | (go_at_call 33; refine (HLR.out).mono ?_; rintro e w1 ⟨rfl, n1, hw1⟩; have h1 := H0.out.drewN n1; rw [← hw1] at h1; obtain ⟨c0, c1, c2, c3, c4⟩ := HF.out _ _ h1; have g1 := Lib.hid (refPut_no h1.bel _ rfl); have G1 := Lib.hid h1; clear h1 hw1))
          clear c0 c1 c2 c3 c4 hlen g0 g1
          have h2 := G1.out.litB 5 [0] (sp_bytesB _ (by decide)) 1 rfl (by decide) #[.int .u8 0] rfl _ rfl
          have H2 := Lib.hid h2
          obtain ⟨c0, c1, c2, c3, c4⟩ := HF.out _ _ h2.swap
          clear h2 c0 c2 c3 c4
          go_upto_region 7 with (first
            | (go_at_call 35; refine (Ptr_any H2.out f).mono ?_; rintro e w3 ⟨v3, rfl, h3⟩)
            | (go_at_call 34; refine (Joined_any h3.swap (by have := Hq.out; simp only [List.length_cons, List.length_nil]; omega)).mono ?_; rintro e w4 ⟨v4, rfl, h4⟩; have g4 := h4.swap.drop; have H4 := Lib.hid g4; obtain ⟨-, -, c2, -, -⟩ := HF.out _ _ g4.swap; clear h3 h4 g4))
          go_upto_region 8 with (first
            | (go_at_call 35; refine (Ptr_any H4.out o).mono ?_; rintro e w5 ⟨v5, rfl, h5⟩)
            | (go_at_call 34; refine (Joined_any h5.swap (by have := Hq.out; simp only [List.length_append, List.length_cons, List.length_nil]; omega)).mono ?_; rintro e w6 ⟨v6, rfl, h6⟩; have g6 := h6.swap.drop; have H6 := Lib.hid g6; obtain ⟨-, -, -, c3, -⟩ := HF.out _ _ g6.swap; clear h5 h6 g6))
          go_upto_region 9 with (first
            | (go_at_call 36; refine (HLB.out _ _ inferInstance H6.out).mono ?_; rintro e w7 ⟨v7, rfl, h7⟩)
            | (go_at_call 34; refine (Joined_any h7.swap (by have := Hq.out; simp only [List.length_append, List.length_cons, List.length_nil]; omega)).mono ?_; rintro e w8 ⟨v8, rfl, h8⟩; have g8 := h8.swap.drop; have H8 := Lib.hid g8; obtain ⟨-, -, -, -, c4⟩ := HF.out _ _ g8.swap; clear h7 h8 g8))
          go_wp2_with (go_at_call 34; refine (HJ.out _ _ _ inferInstance H8.out).mono ?_; rintro e w9 ⟨v9, rfl, h9⟩)
          go_ret2
          exact ⟨_, rfl, h9.own, h9.bel⟩
set_option maxRecDepth 100000 in
set_option maxHeartbeats 4000000 in
theorem refPutNodT_true (f o : Int) (A : Option Addr) (cap B : Nat) (L : List Int) (A2 : Option Addr) (cap2 B2 : Nat) (L2 : List Nat) (w : World) (hr : RL ivl w B A L) (hB : B ≤ w.heap.size) (hcap : L.length ≤ cap) (hm : cap ≤ maxLen) (hr2 : RB w B2 A2 L2) (hB2 : B2 ≤ w.heap.size) : Calls Try.prog 14 #[.agg #[.bool true, .int .i64 f, .int .i64 o, .slice A L.length cap, .slice A2 L2.length cap2]] w (RefPut (refNodTok ⟨true, f, o⟩ L L2) (refNodB ⟨true, f, o⟩ L ++ L2) w) := by
  have h0 := (St.start Zf w).newBlk 26 #[.bool true, .int .i64 f, .int .i64 o, .slice A L.length cap, .slice A2 L2.length cap2]
  obtain ⟨wo, hwo⟩ : ∃ wo, wo = w.alloc (.cells #[.bool true, .int .i64 f, .int .i64 o, .slice A L.length cap, .slice A2 L2.length cap2] 26) := ⟨_, rfl⟩
  rw [← hwo] at h0
  have HF : Hid (∀ (l : List Ass) (W : World), St Zf (BlkA w.heap.size 26 #[.bool true, .int .i64 f, .int .i64 o, .slice A L.length cap, .slice A2 L2.length cap2] :: l) w W → W.cell? ⟨w.heap.size, 0, none⟩ = some (.bool true) ∧ W.cell? ⟨w.heap.size, 1, none⟩ = some (.int .i64 f) ∧ W.cell? ⟨w.heap.size, 2, none⟩ = some (.int .i64 o) ∧ W.cell? ⟨w.heap.size, 3, none⟩ = some (.slice A L.length cap) ∧ W.cell? ⟨w.heap.size, 4, none⟩ = some (.slice A2 L2.length cap2)) := Lib.hid fun l W h => cellsnodT h
  have hlb := labB_length L
  have hp1 := ptrB_short f
  have hp2 := ptrB_short o
  unfold RefPut refNodTok refNodB
  have hlim : nodLim true = 65536 := rfl
  have h01 : [d01 true] = [1] := rfl
  simp only [hlim, h01]
  obtain ⟨b1, hb1⟩ : ∃ b, b = inR (-1) 65536 f := ⟨_, rfl⟩
  obtain ⟨b2, hb2⟩ : ∃ b, b = inR (-1) 65536 o := ⟨_, rfl⟩
  obtain ⟨b3, hb3⟩ : ∃ b, b = labR L := ⟨_, rfl⟩
  obtain ⟨b4, hb4⟩ : ∃ b, b = decide (L2.length = 48) := ⟨_, rfl⟩
  have hlen : ((L2.length : Int) != 48) = !b4 := by
    rw [hb4]
    by_cases h : L2.length = 48
    · rw [decide_eq_true h, h]; rfl
    · rw [decide_eq_false h]; rw [bne_iff_ne.2 (by omega)]; rfl
  have h48 : b4 = true → L2.length = 48 := fun h => by rw [hb4] at h; exact of_decide_eq_true h
  have H1 := fun w1 => Lib.hid (In_any f (-1) 65536 w1)
  have H2 := fun w1 => Lib.hid (In_any o (-1) 65536 w1)
  have HLR := Lib.hid (LabelsRight_any A cap B L wo (h0.rl hr hB) hcap hm)
  rw [← hb1] at H1 ⊢
  rw [← hb2] at H2 ⊢
  rw [← hb3] at HLR ⊢
  rw [← hb4]
  have HLB : Hid (∀ (l : List Ass) (W : World), Stable (Sep l) → St Zf l w W → Calls Try.prog 36 #[.slice A L.length cap] W fun e w' => ∃ v, e = .returned v ∧ St Zf (ObA 5 v (labB L) :: l) w w') := Lib.hid fun l W hst hW => (LabelBytes_any A cap B L W (hW.rl hr hB) (by have := hW.size; omega) hcap hm).mono (by
    rintro e w' ⟨v, rfl, ho, hb⟩
    exact ⟨v, rfl, hW.newOb ho hb⟩)
  have Hq : Hid ((labB L).length = 8 ∧ (ptrB f).length ≤ 8 ∧ (ptrB o).length ≤ 8) := Lib.hid ⟨hlb, hp1, hp2⟩
  have Hj : Hid (L2.length = 48 → ∀ (l : List Ass) (v : Value) (W : World), Stable (Sep l) → St Zf (ObA 5 v ([1] ++ ptrB f ++ ptrB o ++ labB L) :: l) w W → Calls Try.prog 34 #[v, .slice A2 L2.length cap2] W fun e w' => ∃ v', e = .returned v' ∧ St Zf (ObA 5 v' ([1] ++ ptrB f ++ ptrB o ++ labB L ++ L2) :: l) w w') := Lib.hid fun h l v W hst hW => JoinedF_any hW hr2 hB2 (by simp only [List.length_append, List.length_cons, List.length_nil]; omega)
  obtain ⟨c0, c1, c2, c3, c4⟩ := HF.out _ _ h0
  have Hwo := Lib.hid hwo
  have H0 := Lib.hid h0
  have g0 := Lib.hid (refPut_no h0.bel _ rfl)
  have HM := Lib.hid hm
  clear hwo hb1 hb2 hb3 hb4 hlb hp1 hp2 h0 hr hr2 hm hlim h01
  cases b1
  · have e0 : ((false && b2 && b3 && b4) = true) = False := by simp
    simp only [e0, if_false]
    clear h48 hlen
    go_enter Try.func14, Try.ntmps14
    go_upto_region 1 with fail
    rw [← Hwo.out]
    go_wp2_with (first | (go_at_call 32; with_reducible refine ((H1 _).out).mono ?_; rintro e w' ⟨rfl, rfl⟩))
    go_ret2
    exact ⟨_, rfl, g0.out⟩
  · cases b2
    · have e0 : ((true && false && b3 && b4) = true) = False := by simp
      simp only [e0, if_false]
      clear h48 hlen
      go_enter Try.func14, Try.ntmps14
      go_upto_region 1 with fail
      rw [← Hwo.out]
      go_wp2_with (first | (go_at_call 32; with_reducible refine ((H1 _).out).mono ?_; rintro e w' ⟨rfl, rfl⟩) | (go_at_call 32; with_reducible refine ((H2 _).out).mono ?_; rintro e w' ⟨rfl, rfl⟩))
      go_ret2
      exact ⟨_, rfl, g0.out⟩
    · cases b3
      · have e0 : ((true && true && false && b4) = true) = False := by simp
        simp only [e0, if_false]
        clear h48 hlen
        go_enter Try.func14, Try.ntmps14
        go_upto_region 1 with fail
        rw [← Hwo.out]
        go_wp2_with (first | (go_at_call 32; with_reducible refine ((H1 _).out).mono ?_; rintro e w' ⟨rfl, rfl⟩) | (go_at_call 32; with_reducible refine ((H2 _).out).mono ?_; rintro e w' ⟨rfl, rfl⟩) | (go_at_call 33; refine (HLR.out).mono ?_; rintro e w1 ⟨rfl, n1, hw1⟩; have h1 := H0.out.drewN n1; rw [← hw1] at h1; obtain ⟨c0, c1, c2, c3, c4⟩ := HF.out _ _ h1; have g1 := Lib.hid (refPut_no h1.bel _ rfl); have G1 := Lib.hid h1; clear h1 hw1))
        go_ret2
        exact ⟨_, rfl, g1.out⟩
      · cases b4
        · have e0 : ((true && true && true && false) = true) = False := by simp
          simp only [e0, if_false]
          clear h48
          have hlen : ((L2.length : Int) != 48) = true := hlen
          go_enter Try.func14, Try.ntmps14
          go_upto_region 1 with fail
          rw [← Hwo.out]
          go_wp2_with (first | (go_at_call 32; with_reducible refine ((H1 _).out).mono ?_; rintro e w' ⟨rfl, rfl⟩) | (go_at_call 32; with_reducible refine ((H2 _).out).mono ?_; rintro e w' ⟨rfl, rfl⟩) | (go_at_call 33; refine (HLR.out).mono ?_; rintro e w1 ⟨rfl, n1, hw1⟩; have h1 := H0.out.drewN n1; rw [← hw1] at h1; obtain ⟨c0, c1, c2, c3, c4⟩ := HF.out _ _ h1; have g1 := Lib.hid (refPut_no h1.bel _ rfl); have G1 := Lib.hid h1; clear h1 hw1))
          go_ret2
          exact ⟨_, rfl, g1.out⟩
        · have e0 : ((true && true && true && true) = true) = True := by simp
          simp only [e0, if_true]
          have hlen : ((L2.length : Int) != 48) = false := hlen
          have HJ := Lib.hid (Hj.out (h48 rfl))
          clear Hj h48
          go_enter Try.func14, Try.ntmps14
          go_upto_region 1 with fail
          rw [← Hwo.out]
          go_upto_region 6 with (first | (go_at_call 32; with_reducible refine ((H1 _).out).mono ?_; rintro e w' ⟨rfl, rfl⟩) | (go_at_call 32; with_reducible refine ((H2 _).out).mono ?_; rintro e w' ⟨rfl, rfl⟩) | (go_at_call 33; refine (HLR.out).mono ?_; rintro e w1 ⟨rfl, n1, hw1⟩; have h1 := H0.out.drewN n1; rw [← hw1] at h1; obtain ⟨c0, c1, c2, c3, c4⟩ := HF.out _ _ h1; have g1 := Lib.hid (refPut_no h1.bel _ rfl); have G1 := Lib.hid h1; clear h1 hw1))
          clear c0 c1 c2 c3 c4 hlen g0 g1
          have h2 := G1.out.litB 5 [1] (sp_bytesB _ (by decide)) 1 rfl (by decide) #[.int .u8 1] rfl _ rfl
          have H2 := Lib.hid h2
          obtain ⟨c0, c1, c2, c3, c4⟩ := HF.out _ _ h2.swap
          clear h2 c0 c2 c3 c4
          go_upto_region 7 with (first
            | (go_at_call 35; refine (Ptr_any H2.out f).mono ?_; rintro e w3 ⟨v3, rfl, h3⟩)
            | (go_at_call 34; refine (Joined_any h3.swap (by have := Hq.out; simp only [List.length_cons, List.length_nil]; omega)).mono ?_; rintro e w4 ⟨v4, rfl, h4⟩; have g4 := h4.swap.drop; have H4 := Lib.hid g4; obtain ⟨-, -, c2, -, -⟩ := HF.out _ _ g4.swap; clear h3 h4 g4))
          go_upto_region 8 with (first
            | (go_at_call 35; refine (Ptr_any H4.out o).mono ?_; rintro e w5 ⟨v5, rfl, h5⟩)
            | (go_at_call 34; refine (Joined_any h5.swap (by have := Hq.out; simp only [List.length_append, List.length_cons, List.length_nil]; omega)).mono ?_; rintro e w6 ⟨v6, rfl, h6⟩; have g6 := h6.swap.drop; have H6 := Lib.hid g6; obtain ⟨-, -, -, c3, -⟩ := HF.out _ _ g6.swap; clear h5 h6 g6))
          go_upto_region 9 with (first
            | (go_at_call 36; refine (HLB.out _ _ inferInstance H6.out).mono ?_; rintro e w7 ⟨v7, rfl, h7⟩)
            | (go_at_call 34; refine (Joined_any h7.swap (by have := Hq.out; simp only [List.length_append, List.length_cons, List.length_nil]; omega)).mono ?_; rintro e w8 ⟨v8, rfl, h8⟩; have g8 := h8.swap.drop; have H8 := Lib.hid g8; obtain ⟨-, -, -, -, c4⟩ := HF.out _ _ g8.swap; clear h7 h8 g8))
          go_wp2_with (go_at_call 34; refine (HJ.out _ _ _ inferInstance H8.out).mono ?_; rintro e w9 ⟨v9, rfl, h9⟩)
          go_ret2
          exact ⟨_, rfl, h9.own, h9.bel⟩
theorem refPutNodT_any (x : NodC) (A : Option Addr) (cap B : Nat) (L : List Int) (A2 : Option Addr) (cap2 B2 : Nat) (L2 : List Nat) (w : World) (hr : RL ivl w B A L) (hB : B ≤ w.heap.size) (hcap : L.length ≤ cap) (hm : cap ≤ maxLen) (hr2 : RB w B2 A2 L2) (hB2 : B2 ≤ w.heap.size) : Calls Try.prog 14 #[.agg #[.bool x.d, .int .i64 x.f, .int .i64 x.o, .slice A L.length cap, .slice A2 L2.length cap2]] w (RefPut (refNodTok x L L2) (refNodB x L ++ L2) w) := by
  obtain ⟨d, f, o⟩ := x
  cases d
  · exact refPutNodT_false f o A cap B L A2 cap2 B2 L2 w hr hB hcap hm hr2 hB2
  · exact refPutNodT_true f o A cap B L A2 cap2 B2 L2 w hr hB hcap hm hr2 hB2
end Go.Proofs.Ytmiiogailnjfpaa
