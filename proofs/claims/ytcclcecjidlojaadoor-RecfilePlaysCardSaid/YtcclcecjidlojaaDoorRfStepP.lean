/- recfile: Put of the script on both files. -/
import Derived.Test.YtcclcecjidlojaaDoorRfStep
namespace Go.Proofs.YtcclcecjidlojaaDoor
open Go.RowKit
set_option linter.unusedVariables false
set_option linter.unusedSimpArgs false
theorem putD_one {s : Nat} {D : List Nat} (h : D.length = 1) : putD s D = List.replicate (s - 1) (nth D 0) := by unfold putD; rw [if_pos h]
theorem putD_not {s : Nat} {D : List Nat} (h : ¬ D.length = 1) : putD s D = D := by unfold putD; rw [if_neg h]
theorem putErr_ok {s m : Nat} {id : Int} (h : putErr s id m = 0) : ∃ x : Nat, id = x ∧ x < 65536 ∧ m + 1 = s := by
  unfold putErr at h
  split at h
  · exact absurd h (by decide)
  · rename_i h1
    split at h
    · rename_i h2
      exact ⟨id.toNat, by omega, by omega, h2⟩
    · exact absurd h (by decide)
set_option maxRecDepth 100000 in
set_option maxHeartbeats 2000000 in
theorem step_put0 {w0 w : World} {l : List Ass} [Stable (Sep l)] {g m k v s lw : Nat} {L : List Rc} {kd id : Int} {X : Option Addr} {c : Nat} {D : List Nat}
    (h : St Zf (RfA g (k : Int) (v : Int) (s : Int) (recB L) ((liveL L L.length : Nat) : Int) (lw : Int) :: DfA m (k : Int) (v : Int) (s : Int) L :: l) w0 w) (hb : Bo L s lw) (hs : 2 ≤ s ∧ s ≤ 255) (hk : k < 256 ∧ v < 256) (hT : TabW w0) (hX : RB w0 w0.heap.size X D) (hD : D.length ≤ 140737488351232) (hc : D.length ≤ c) (hkd : bits .and .i64 kd 7 = 0) : Calls Tryd.prog 22 #[.pointer (some ⟨g, 0, none⟩), .pointer (some ⟨m, 0, none⟩), .agg #[.int .i64 kd, .int .i64 id, .slice X D.length c]] w (Stepped g m k v s l w0) := by
  obtain ⟨i0, hi, hz0, hz1, hz2⟩ := info_parts u8_info
  have h6 := (h.newBlk 44 #[.int .i64 kd, .int .i64 id, .slice X D.length c]).back2
  obtain ⟨p0, p1, p2⟩ := opCells3 h6.bring2
  have HLL : Hid (L.length ≤ 65536) := Lib.hid hb.rw_.few
  have HS := Lib.hid hs
  have HB := Lib.hid hb
  have HX := Lib.hid hX
  have HD := Lib.hid hD
  have H6 := Lib.hid h6
  have HCL := Lib.hid fun (W : World) (h' : St Zf (RfA g (k : Int) (v : Int) (s : Int) (recB L) ((liveL L L.length : Nat) : Int) (lw : Int) :: DfA m (k : Int) (v : Int) (s : Int) L :: BlkA w.heap.size 44 #[.int .i64 kd, .int .i64 id, .slice X D.length c] :: l) w0 W) => lawClone_any X c w0.heap.size D W (h'.rb hX (Nat.le_refl _)) h'.bel.size (by omega)
  obtain ⟨Y, hY⟩ : ∃ Y, Y = putD s D := ⟨_, rfl⟩
  have HY := Lib.hid hY
  have hYl : Y.length ≤ 140737488351232 := by
    rw [hY]
    unfold putD
    split
    · rw [List.length_replicate]; omega
    · exact hD
  have HYB : Hid (Y.length ≤ 140737488351232) := Lib.hid hYl
  have HYC : Hid (Y.length ≤ 140737488355328) := Lib.hid (by omega)
  have HYM : Hid (Y.length ≤ maxLen) := Lib.hid (by unfold maxLen; omega)
  obtain ⟨n1, hn1⟩ : ∃ n, n = D.length := ⟨_, rfl⟩
  have HN1 := Lib.hid hn1
  clear h h6 hs hk hT hX hD hc hY hYl
  go_enter Tryd.func22, Tryd.ntmps22
  obtain ⟨bp, hbp⟩ : ∃ q, ((D.length : Int) == 1) = q := ⟨_, rfl⟩
  have hbp' : decide (D.length = 1) = bp := by
    rw [← hbp]
    by_cases h1 : D.length = 1
    · rw [h1]; rfl
    · rw [decide_eq_false h1]; exact (beq_eq_false_iff_ne.2 (by omega)).symm
  go_upto_if 34 with (go_at_call 18; refine (HCL.out _ H6.out).mono ?_; rintro e w2 ⟨v2, rfl, ho2, hb2⟩; have H2 := Lib.hid (H6.out.newOb ho2 hb2); obtain ⟨A2, c2, rfl, -, -, -, -⟩ := ho2.form; clear ho2 hb2)
  have HBP := Lib.hid hbp'
  clear p0 p1 p2 hbp hbp'
  go_cut [7, 8] from 32 (fun d i wc => ∃ (A7 : Option Addr) (c7 : Nat), d = .slice A7 Y.length c7 ∧ St Zf (ObA 5 (.slice A7 Y.length c7) Y :: RfA g (k : Int) (v : Int) (s : Int) (recB L) ((liveL L L.length : Nat) : Int) (lw : Int) :: DfA m (k : Int) (v : Int) (s : Int) L :: BlkA w.heap.size 44 #[.int .i64 kd, .int .i64 id, .slice X D.length c] :: l) w0 wc)
  case first =>
    cases bp
    case false =>
      have h1 : ¬ D.length = 1 := of_decide_eq_false HBP.out
      have HYD : Hid (Y = D) := Lib.hid (by rw [HY.out, putD_not h1])
      clear h1
      go_wp2
      go_meet
      rw [HYD.out]
      exact ⟨A2, c2, rfl, H2.out⟩
    case true =>
      have h1 : D.length = 1 := of_decide_eq_true HBP.out
      obtain ⟨y, hy⟩ : ∃ y, y = nth D 0 := ⟨_, rfl⟩
      have hy8 : y < 256 := by rw [hy]; exact HX.out.1.nth 0
      have HYR : Hid (Y = List.replicate (s - 1) y) := Lib.hid (by rw [HY.out, putD_one h1, hy])
      have HYY := Lib.hid hy
      have HY8 := Lib.hid hy8
      have H3 := Lib.hid H2.out.drop
      have i1 : (0 : Int) < (D.length : Int) := by omega
      have HD1 := Lib.hid h1
      clear h1 hy hy8
      go_wp2
      go_loopw [7, 8] (fun d i wr => ∃ j : Nat, 1 ≤ j ∧ j ≤ s ∧ i = .int .i64 j ∧ St Zf (ObA 5 d (List.replicate (j - 1) y) :: RfA g (k : Int) (v : Int) (s : Int) (recB L) ((liveL L L.length : Nat) : Int) (lw : Int) :: DfA m (k : Int) (v : Int) (s : Int) L :: BlkA w.heap.size 44 #[.int .i64 kd, .int .i64 id, .slice X D.length c] :: l) w0 wr) (fun _ i _ => s - (intOf i).toNat)
      case atStart => exact ⟨1, Nat.le_refl _, Nat.le_trans (by decide) HS.out.1, rfl, H3.out.newNilB _ rfl⟩
      case round =>
        obtain ⟨j, hj1, hj, rfl, hst⟩ := hrel
        clear H3 H2
        obtain ⟨Ad, cd, hAd, -, -, -, -⟩ := hst.ob.form
        generalize List.length _ = nd at hAd
        subst hAd
        obtain ⟨Ah, ch, x0, x1, x2, x3⟩ := df_head hst.bring2
        obtain ⟨p0, p1, p2⟩ := opCells3 hst.bring3
        by_cases hlt : j < s
        · obtain ⟨bx, ox, hXa, -, hcx⟩ := (hst.rb HX.out (Nat.le_refl _)).at_ (k := 0) (by have := HD1.out; omega)
          rw [← HYY.out, Nat.add_zero] at hcx
          have HST := Lib.hid hst
          have hjI : (j : Int) < (s : Int) := by omega
          have hsI : (s : Int) ≤ 255 := by have := HS.out; omega
          have HRP : Hid (List.replicate (j - 1) y ++ [y] = List.replicate (j + 1 - 1) y) := Lib.hid (by rw [← List.replicate_succ']; congr 1; omega)
          have HRL : Hid ((List.replicate (j - 1) y).length + 1 ≤ 140737488355328) := Lib.hid (by rw [List.length_replicate]; have := HS.out; omega)
          have HJ : Hid (1 ≤ j + 1) := Lib.hid (by omega)
          clear hst hj1 hj
          subst hXa
          go_wp2_with (at_builtin; refine wpList_append_lit8 _ rfl _ _ 34 rfl 0 5 i0 Tryd.underlying34 hi hz0 hz1 hz2 (.slice Ad nd cd) (List.replicate (j - 1) y) y (by rfl) HST.out.ob (by rfl) _ rfl HY8.out HRL.out (Nat.zero_le _) ?_; intro v8 w8 hown8 hg8 hat8; have h8 := HST.out.grewOb hown8 hg8 hat8 (by simp); rw [HRP.out] at h8; have H8 := Lib.hid h8; clear hown8 hg8 hat8 h8)
          go_roundw
          case rel => exact ⟨j + 1, HJ.out, hlt, by go_num, H8.out⟩
          case measure => exact meas_lt hlt
        · obtain rfl : s = j := by omega
          have hjI : ¬ (s : Int) < (s : Int) := by omega
          rw [← HYR.out] at hst
          obtain ⟨A9, c9, hA9, -, -, -, -⟩ := hst.ob.form
          have HST := Lib.hid hst
          have HA9 := Lib.hid hA9
          clear hst hj1 hj hA9
          go_wp2
          go_meet
          have h9 := HST.out
          rw [HA9.out] at h9
          exact ⟨A9, c9, HA9.out, h9⟩
  case rest =>
    obtain ⟨A7, c7, rfl, hst⟩ := hcut
    have HC := Lib.hid (lawClone_any A7 c7 wc.heap.size Y wc hst.ob.reads.2.1 (Nat.le_refl _) HYC.out)
    have H7 := Lib.hid hst
    obtain ⟨p0, p1, p2⟩ := opCells3 hst.bring3
    clear hst H2 H6 HCL
    obtain ⟨E, hE⟩ : ∃ E, E = putErr s id Y.length := ⟨_, rfl⟩
    have HE := Lib.hid hE
    have e0 : (E == E) = true := by simp
    by_cases he : E = 0
    case neg =>
      have HNE : Hid (putErr s id Y.length ≠ 0) := Lib.hid (by rw [← hE]; exact he)
      clear hE he
      go_wp2_with (first
        | (go_at_call 18; refine (HC.out).mono ?_; rintro e w3 ⟨v3, rfl, ho3, hb3⟩; have h3 := H7.out.newOb ho3 hb3; obtain ⟨A3, c3, rfl, -, -, -, -⟩ := ho3.form; have H3 := Lib.hid h3; obtain ⟨p3, p4, p5⟩ := opCells3 h3.bring4; have hp := rfPut_err (A' := A3) (cap' := c3) h3.bring2 HS.out.1 HS.out.2 HNE.out; rw [← HE.out] at hp; have HP := Lib.hid hp; clear h3 ho3 hb3 hp HC)
        | (go_at_call 23; refine (HP.out).mono ?_; rintro e w4 ⟨rfl, rfl⟩)
        | (go_at_call 15; refine (same_yes A3 A7 _ c3 c7 _ _ Y w3 H3.out.ob.reads.2.1 H3.out.swap.ob.reads.2.1 rfl HYM.out).mono ?_; rintro e w5 ⟨rfl, q5, hw5⟩; have h5 := H3.out.drewN q5; rw [← hw5] at h5; have H5 := Lib.hid h5; clear h5 hw5 H3 p3 p4 p5)
        | (go_at_call 21; refine (spoil9 H5.out rfl HYB.out).mono ?_; rintro e w6 ⟨rfl, h6⟩; have H6 := Lib.hid h6; obtain ⟨p6, p7, p8⟩ := opCells3 h6.bring3; have hp := refPut_err (A' := A7) (cap' := c7) h6.bring2 HS.out.1 HS.out.2 HNE.out; rw [← HE.out] at hp; have HP2 := Lib.hid hp; clear h6 hp)
        | (go_at_call 34; refine (HP2.out).mono ?_; rintro e w7 ⟨rfl, rfl⟩))
      go_ret
      exact ⟨rfl, L, lw, HB.out, H6.out.drop.bring2.drop⟩
    case pos =>
      subst he
      obtain ⟨x, hx, hx2, hYs⟩ := putErr_ok hE.symm
      subst hx
      have HYS : Hid (IsBytes Y) := Lib.hid (by
        rw [HY.out]
        unfold putD
        split
        · exact IsBytes.replicate _ (HX.out.1.nth 0)
        · exact HX.out.1)
      obtain ⟨b1, b2, b3⟩ := hb.put (id := x) (Nat.lt_of_lt_of_le (by decide) HS.out.1) hx2 hYs HYS.out
      have hle := liveL_le' L
      have hfew := hb.rw_.few
      have HLV : Hid ((0 : Int) ≤ ((liveL L L.length : Nat) : Int) ∧ ((liveL L L.length : Nat) : Int) ≤ 1099511627776) := Lib.hid (by omega)
      have HB1 := Lib.hid b1
      have HB2 := Lib.hid b2
      have HB3 := Lib.hid b3
      have HX2 := Lib.hid hx2
      have HYL := Lib.hid hYs
      clear hE hx2 hYs b1 b2 b3 hle hfew
      go_wp2_with (first
        | (go_at_call 18; refine (HC.out).mono ?_; rintro e w3 ⟨v3, rfl, ho3, hb3⟩; have h3 := H7.out.newOb ho3 hb3; obtain ⟨A3, c3, rfl, -, -, -, -⟩ := ho3.form; obtain ⟨p3, p4, p5⟩ := opCells3 h3.bring4; have hp := rfPut_ok (id := x) (A' := A3) (cap' := c3) (D := Y) h3.bring2 HS.out.1 HS.out.2 HB.out.rw_.len HB.out.rw_.few HX2.out HLV.out.1 HLV.out.2 h3.ob.reads.2.1 (Nat.le_refl _) HYL.out (fun w' h' => h'.swap.ob.reads.2.1); rw [HB3.out, HB2.out] at hp; have HP := Lib.hid hp; clear h3 ho3 hb3 hp HC)
        | (go_at_call 23; refine (HP.out).mono ?_; rintro e w4 ⟨rfl, h4⟩; have H4 := Lib.hid h4; obtain ⟨p13, p14, p15⟩ := opCells3 h4.bring4; clear h4)
        | (go_at_call 15; refine (same_yes A3 A7 _ c3 c7 _ _ Y w4 H4.out.swap.ob.reads.2.1 H4.out.bring2.ob.reads.2.1 rfl HYM.out).mono ?_; rintro e w5 ⟨rfl, q5, hw5⟩; have h5 := H4.out.drewN q5; rw [← hw5] at h5; have H5 := Lib.hid h5; clear h5 hw5 p13 p14 p15 p3 p4 p5)
        | (go_at_call 21; refine (spoil9 H5.out.swap rfl HYB.out).mono ?_; rintro e w6 ⟨rfl, h6⟩; obtain ⟨p6, p7, p8⟩ := opCells3 h6.bring3; have hp := refPut_ok (id := x) (A' := A7) (cap' := c7) (D := Y) h6.bring2 HS.out.1 HS.out.2 HLL.out HX2.out HYL.out (fun L' w' h' => h'.bring2.ob.reads.2.1); have HP2 := Lib.hid hp; clear h6 hp)
        | (go_at_call 34; refine (HP2.out).mono ?_; rintro e w7 ⟨rfl, h7⟩; have H7b := Lib.hid h7; clear h7))
      go_ret
      exact ⟨rfl, _, lw, HB1.out, (H7b.out.bring2.drop.swap.bring2).drop⟩
set_option maxRecDepth 100000 in
set_option maxHeartbeats 2000000 in
theorem step_put1 {w0 w : World} {l : List Ass} [Stable (Sep l)] {g m k v s lw : Nat} {L : List Rc} {kd id : Int} {X : Option Addr} {c : Nat} {D : List Nat}
    (h : St Zf (RfA g (k : Int) (v : Int) (s : Int) (recB L) ((liveL L L.length : Nat) : Int) (lw : Int) :: DfA m (k : Int) (v : Int) (s : Int) L :: l) w0 w) (hb : Bo L s lw) (hs : 2 ≤ s ∧ s ≤ 255) (hk : k < 256 ∧ v < 256) (hT : TabW w0) (hX : RB w0 w0.heap.size X D) (hD : D.length ≤ 140737488351232) (hc : D.length ≤ c) (hkd : bits .and .i64 kd 7 = 1) : Calls Tryd.prog 22 #[.pointer (some ⟨g, 0, none⟩), .pointer (some ⟨m, 0, none⟩), .agg #[.int .i64 kd, .int .i64 id, .slice X D.length c]] w (Stepped g m k v s l w0) := by
  obtain ⟨i0, hi, hz0, hz1, hz2⟩ := info_parts u8_info
  have h6 := (h.newBlk 44 #[.int .i64 kd, .int .i64 id, .slice X D.length c]).back2
  obtain ⟨p0, p1, p2⟩ := opCells3 h6.bring2
  have HLL : Hid (L.length ≤ 65536) := Lib.hid hb.rw_.few
  have HS := Lib.hid hs
  have HB := Lib.hid hb
  have HX := Lib.hid hX
  have HD := Lib.hid hD
  have H6 := Lib.hid h6
  have HCL := Lib.hid fun (W : World) (h' : St Zf (RfA g (k : Int) (v : Int) (s : Int) (recB L) ((liveL L L.length : Nat) : Int) (lw : Int) :: DfA m (k : Int) (v : Int) (s : Int) L :: BlkA w.heap.size 44 #[.int .i64 kd, .int .i64 id, .slice X D.length c] :: l) w0 W) => lawClone_any X c w0.heap.size D W (h'.rb hX (Nat.le_refl _)) h'.bel.size (by omega)
  obtain ⟨Y, hY⟩ : ∃ Y, Y = putD s D := ⟨_, rfl⟩
  have HY := Lib.hid hY
  have hYl : Y.length ≤ 140737488351232 := by
    rw [hY]
    unfold putD
    split
    · rw [List.length_replicate]; omega
    · exact hD
  have HYB : Hid (Y.length ≤ 140737488351232) := Lib.hid hYl
  have HYC : Hid (Y.length ≤ 140737488355328) := Lib.hid (by omega)
  have HYM : Hid (Y.length ≤ maxLen) := Lib.hid (by unfold maxLen; omega)
  obtain ⟨n1, hn1⟩ : ∃ n, n = D.length := ⟨_, rfl⟩
  have HN1 := Lib.hid hn1
  clear h h6 hs hk hT hX hD hc hY hYl
  go_enter Tryd.func22, Tryd.ntmps22
  obtain ⟨bp, hbp⟩ : ∃ q, ((D.length : Int) == 1) = q := ⟨_, rfl⟩
  have hbp' : decide (D.length = 1) = bp := by
    rw [← hbp]
    by_cases h1 : D.length = 1
    · rw [h1]; rfl
    · rw [decide_eq_false h1]; exact (beq_eq_false_iff_ne.2 (by omega)).symm
  go_upto_if 34 with (go_at_call 18; refine (HCL.out _ H6.out).mono ?_; rintro e w2 ⟨v2, rfl, ho2, hb2⟩; have H2 := Lib.hid (H6.out.newOb ho2 hb2); obtain ⟨A2, c2, rfl, -, -, -, -⟩ := ho2.form; clear ho2 hb2)
  have HBP := Lib.hid hbp'
  clear p0 p1 p2 hbp hbp'
  go_cut [7, 8] from 32 (fun d i wc => ∃ (A7 : Option Addr) (c7 : Nat), d = .slice A7 Y.length c7 ∧ St Zf (ObA 5 (.slice A7 Y.length c7) Y :: RfA g (k : Int) (v : Int) (s : Int) (recB L) ((liveL L L.length : Nat) : Int) (lw : Int) :: DfA m (k : Int) (v : Int) (s : Int) L :: BlkA w.heap.size 44 #[.int .i64 kd, .int .i64 id, .slice X D.length c] :: l) w0 wc)
  case first =>
    cases bp
    case false =>
      have h1 : ¬ D.length = 1 := of_decide_eq_false HBP.out
      have HYD : Hid (Y = D) := Lib.hid (by rw [HY.out, putD_not h1])
      clear h1
      go_wp2
      go_meet
      rw [HYD.out]
      exact ⟨A2, c2, rfl, H2.out⟩
    case true =>
      have h1 : D.length = 1 := of_decide_eq_true HBP.out
      obtain ⟨y, hy⟩ : ∃ y, y = nth D 0 := ⟨_, rfl⟩
      have hy8 : y < 256 := by rw [hy]; exact HX.out.1.nth 0
      have HYR : Hid (Y = List.replicate (s - 1) y) := Lib.hid (by rw [HY.out, putD_one h1, hy])
      have HYY := Lib.hid hy
      have HY8 := Lib.hid hy8
      have H3 := Lib.hid H2.out.drop
      have i1 : (0 : Int) < (D.length : Int) := by omega
      have HD1 := Lib.hid h1
      clear h1 hy hy8
      go_wp2
      go_loopw [7, 8] (fun d i wr => ∃ j : Nat, 1 ≤ j ∧ j ≤ s ∧ i = .int .i64 j ∧ St Zf (ObA 5 d (List.replicate (j - 1) y) :: RfA g (k : Int) (v : Int) (s : Int) (recB L) ((liveL L L.length : Nat) : Int) (lw : Int) :: DfA m (k : Int) (v : Int) (s : Int) L :: BlkA w.heap.size 44 #[.int .i64 kd, .int .i64 id, .slice X D.length c] :: l) w0 wr) (fun _ i _ => s - (intOf i).toNat)
      case atStart => exact ⟨1, Nat.le_refl _, Nat.le_trans (by decide) HS.out.1, rfl, H3.out.newNilB _ rfl⟩
      case round =>
        obtain ⟨j, hj1, hj, rfl, hst⟩ := hrel
        clear H3 H2
        obtain ⟨Ad, cd, hAd, -, -, -, -⟩ := hst.ob.form
        generalize List.length _ = nd at hAd
        subst hAd
        obtain ⟨Ah, ch, x0, x1, x2, x3⟩ := df_head hst.bring2
        obtain ⟨p0, p1, p2⟩ := opCells3 hst.bring3
        by_cases hlt : j < s
        · obtain ⟨bx, ox, hXa, -, hcx⟩ := (hst.rb HX.out (Nat.le_refl _)).at_ (k := 0) (by have := HD1.out; omega)
          rw [← HYY.out, Nat.add_zero] at hcx
          have HST := Lib.hid hst
          have hjI : (j : Int) < (s : Int) := by omega
          have hsI : (s : Int) ≤ 255 := by have := HS.out; omega
          have HRP : Hid (List.replicate (j - 1) y ++ [y] = List.replicate (j + 1 - 1) y) := Lib.hid (by rw [← List.replicate_succ']; congr 1; omega)
          have HRL : Hid ((List.replicate (j - 1) y).length + 1 ≤ 140737488355328) := Lib.hid (by rw [List.length_replicate]; have := HS.out; omega)
          have HJ : Hid (1 ≤ j + 1) := Lib.hid (by omega)
          clear hst hj1 hj
          subst hXa
          go_wp2_with (at_builtin; refine wpList_append_lit8 _ rfl _ _ 34 rfl 0 5 i0 Tryd.underlying34 hi hz0 hz1 hz2 (.slice Ad nd cd) (List.replicate (j - 1) y) y (by rfl) HST.out.ob (by rfl) _ rfl HY8.out HRL.out (Nat.zero_le _) ?_; intro v8 w8 hown8 hg8 hat8; have h8 := HST.out.grewOb hown8 hg8 hat8 (by simp); rw [HRP.out] at h8; have H8 := Lib.hid h8; clear hown8 hg8 hat8 h8)
          go_roundw
          case rel => exact ⟨j + 1, HJ.out, hlt, by go_num, H8.out⟩
          case measure => exact meas_lt hlt
        · obtain rfl : s = j := by omega
          have hjI : ¬ (s : Int) < (s : Int) := by omega
          rw [← HYR.out] at hst
          obtain ⟨A9, c9, hA9, -, -, -, -⟩ := hst.ob.form
          have HST := Lib.hid hst
          have HA9 := Lib.hid hA9
          clear hst hj1 hj hA9
          go_wp2
          go_meet
          have h9 := HST.out
          rw [HA9.out] at h9
          exact ⟨A9, c9, HA9.out, h9⟩
  case rest =>
    obtain ⟨A7, c7, rfl, hst⟩ := hcut
    have HC := Lib.hid (lawClone_any A7 c7 wc.heap.size Y wc hst.ob.reads.2.1 (Nat.le_refl _) HYC.out)
    have H7 := Lib.hid hst
    obtain ⟨p0, p1, p2⟩ := opCells3 hst.bring3
    clear hst H2 H6 HCL
    obtain ⟨E, hE⟩ : ∃ E, E = putErr s id Y.length := ⟨_, rfl⟩
    have HE := Lib.hid hE
    have e0 : (E == E) = true := by simp
    by_cases he : E = 0
    case neg =>
      have HNE : Hid (putErr s id Y.length ≠ 0) := Lib.hid (by rw [← hE]; exact he)
      clear hE he
      go_wp2_with (first
        | (go_at_call 18; refine (HC.out).mono ?_; rintro e w3 ⟨v3, rfl, ho3, hb3⟩; have h3 := H7.out.newOb ho3 hb3; obtain ⟨A3, c3, rfl, -, -, -, -⟩ := ho3.form; have H3 := Lib.hid h3; obtain ⟨p3, p4, p5⟩ := opCells3 h3.bring4; have hp := rfPut_err (A' := A3) (cap' := c3) h3.bring2 HS.out.1 HS.out.2 HNE.out; rw [← HE.out] at hp; have HP := Lib.hid hp; clear h3 ho3 hb3 hp HC)
        | (go_at_call 23; refine (HP.out).mono ?_; rintro e w4 ⟨rfl, rfl⟩)
        | (go_at_call 15; refine (same_yes A3 A7 _ c3 c7 _ _ Y w3 H3.out.ob.reads.2.1 H3.out.swap.ob.reads.2.1 rfl HYM.out).mono ?_; rintro e w5 ⟨rfl, q5, hw5⟩; have h5 := H3.out.drewN q5; rw [← hw5] at h5; have H5 := Lib.hid h5; clear h5 hw5 H3 p3 p4 p5)
        | (go_at_call 21; refine (spoil9 H5.out rfl HYB.out).mono ?_; rintro e w6 ⟨rfl, h6⟩; have H6 := Lib.hid h6; obtain ⟨p6, p7, p8⟩ := opCells3 h6.bring3; have hp := refPut_err (A' := A7) (cap' := c7) h6.bring2 HS.out.1 HS.out.2 HNE.out; rw [← HE.out] at hp; have HP2 := Lib.hid hp; clear h6 hp)
        | (go_at_call 34; refine (HP2.out).mono ?_; rintro e w7 ⟨rfl, rfl⟩))
      go_ret
      exact ⟨rfl, L, lw, HB.out, H6.out.drop.bring2.drop⟩
    case pos =>
      subst he
      obtain ⟨x, hx, hx2, hYs⟩ := putErr_ok hE.symm
      subst hx
      have HYS : Hid (IsBytes Y) := Lib.hid (by
        rw [HY.out]
        unfold putD
        split
        · exact IsBytes.replicate _ (HX.out.1.nth 0)
        · exact HX.out.1)
      obtain ⟨b1, b2, b3⟩ := hb.put (id := x) (Nat.lt_of_lt_of_le (by decide) HS.out.1) hx2 hYs HYS.out
      have hle := liveL_le' L
      have hfew := hb.rw_.few
      have HLV : Hid ((0 : Int) ≤ ((liveL L L.length : Nat) : Int) ∧ ((liveL L L.length : Nat) : Int) ≤ 1099511627776) := Lib.hid (by omega)
      have HB1 := Lib.hid b1
      have HB2 := Lib.hid b2
      have HB3 := Lib.hid b3
      have HX2 := Lib.hid hx2
      have HYL := Lib.hid hYs
      clear hE hx2 hYs b1 b2 b3 hle hfew
      go_wp2_with (first
        | (go_at_call 18; refine (HC.out).mono ?_; rintro e w3 ⟨v3, rfl, ho3, hb3⟩; have h3 := H7.out.newOb ho3 hb3; obtain ⟨A3, c3, rfl, -, -, -, -⟩ := ho3.form; obtain ⟨p3, p4, p5⟩ := opCells3 h3.bring4; have hp := rfPut_ok (id := x) (A' := A3) (cap' := c3) (D := Y) h3.bring2 HS.out.1 HS.out.2 HB.out.rw_.len HB.out.rw_.few HX2.out HLV.out.1 HLV.out.2 h3.ob.reads.2.1 (Nat.le_refl _) HYL.out (fun w' h' => h'.swap.ob.reads.2.1); rw [HB3.out, HB2.out] at hp; have HP := Lib.hid hp; clear h3 ho3 hb3 hp HC)
        | (go_at_call 23; refine (HP.out).mono ?_; rintro e w4 ⟨rfl, h4⟩; have H4 := Lib.hid h4; obtain ⟨p13, p14, p15⟩ := opCells3 h4.bring4; clear h4)
        | (go_at_call 15; refine (same_yes A3 A7 _ c3 c7 _ _ Y w4 H4.out.swap.ob.reads.2.1 H4.out.bring2.ob.reads.2.1 rfl HYM.out).mono ?_; rintro e w5 ⟨rfl, q5, hw5⟩; have h5 := H4.out.drewN q5; rw [← hw5] at h5; have H5 := Lib.hid h5; clear h5 hw5 p13 p14 p15 p3 p4 p5)
        | (go_at_call 21; refine (spoil9 H5.out.swap rfl HYB.out).mono ?_; rintro e w6 ⟨rfl, h6⟩; obtain ⟨p6, p7, p8⟩ := opCells3 h6.bring3; have hp := refPut_ok (id := x) (A' := A7) (cap' := c7) (D := Y) h6.bring2 HS.out.1 HS.out.2 HLL.out HX2.out HYL.out (fun L' w' h' => h'.bring2.ob.reads.2.1); have HP2 := Lib.hid hp; clear h6 hp)
        | (go_at_call 34; refine (HP2.out).mono ?_; rintro e w7 ⟨rfl, h7⟩; have H7b := Lib.hid h7; clear h7))
      go_ret
      exact ⟨rfl, _, lw, HB1.out, (H7b.out.bring2.drop.swap.bring2).drop⟩
set_option maxRecDepth 100000 in
set_option maxHeartbeats 2000000 in
theorem step_put2 {w0 w : World} {l : List Ass} [Stable (Sep l)] {g m k v s lw : Nat} {L : List Rc} {kd id : Int} {X : Option Addr} {c : Nat} {D : List Nat}
    (h : St Zf (RfA g (k : Int) (v : Int) (s : Int) (recB L) ((liveL L L.length : Nat) : Int) (lw : Int) :: DfA m (k : Int) (v : Int) (s : Int) L :: l) w0 w) (hb : Bo L s lw) (hs : 2 ≤ s ∧ s ≤ 255) (hk : k < 256 ∧ v < 256) (hT : TabW w0) (hX : RB w0 w0.heap.size X D) (hD : D.length ≤ 140737488351232) (hc : D.length ≤ c) (hkd : bits .and .i64 kd 7 = 2) : Calls Tryd.prog 22 #[.pointer (some ⟨g, 0, none⟩), .pointer (some ⟨m, 0, none⟩), .agg #[.int .i64 kd, .int .i64 id, .slice X D.length c]] w (Stepped g m k v s l w0) := by
  obtain ⟨i0, hi, hz0, hz1, hz2⟩ := info_parts u8_info
  have h6 := (h.newBlk 44 #[.int .i64 kd, .int .i64 id, .slice X D.length c]).back2
  obtain ⟨p0, p1, p2⟩ := opCells3 h6.bring2
  have HLL : Hid (L.length ≤ 65536) := Lib.hid hb.rw_.few
  have HS := Lib.hid hs
  have HB := Lib.hid hb
  have HX := Lib.hid hX
  have HD := Lib.hid hD
  have H6 := Lib.hid h6
  have HCL := Lib.hid fun (W : World) (h' : St Zf (RfA g (k : Int) (v : Int) (s : Int) (recB L) ((liveL L L.length : Nat) : Int) (lw : Int) :: DfA m (k : Int) (v : Int) (s : Int) L :: BlkA w.heap.size 44 #[.int .i64 kd, .int .i64 id, .slice X D.length c] :: l) w0 W) => lawClone_any X c w0.heap.size D W (h'.rb hX (Nat.le_refl _)) h'.bel.size (by omega)
  obtain ⟨Y, hY⟩ : ∃ Y, Y = putD s D := ⟨_, rfl⟩
  have HY := Lib.hid hY
  have hYl : Y.length ≤ 140737488351232 := by
    rw [hY]
    unfold putD
    split
    · rw [List.length_replicate]; omega
    · exact hD
  have HYB : Hid (Y.length ≤ 140737488351232) := Lib.hid hYl
  have HYC : Hid (Y.length ≤ 140737488355328) := Lib.hid (by omega)
  have HYM : Hid (Y.length ≤ maxLen) := Lib.hid (by unfold maxLen; omega)
  obtain ⟨n1, hn1⟩ : ∃ n, n = D.length := ⟨_, rfl⟩
  have HN1 := Lib.hid hn1
  clear h h6 hs hk hT hX hD hc hY hYl
  go_enter Tryd.func22, Tryd.ntmps22
  obtain ⟨bp, hbp⟩ : ∃ q, ((D.length : Int) == 1) = q := ⟨_, rfl⟩
  have hbp' : decide (D.length = 1) = bp := by
    rw [← hbp]
    by_cases h1 : D.length = 1
    · rw [h1]; rfl
    · rw [decide_eq_false h1]; exact (beq_eq_false_iff_ne.2 (by omega)).symm
  go_upto_if 34 with (go_at_call 18; refine (HCL.out _ H6.out).mono ?_; rintro e w2 ⟨v2, rfl, ho2, hb2⟩; have H2 := Lib.hid (H6.out.newOb ho2 hb2); obtain ⟨A2, c2, rfl, -, -, -, -⟩ := ho2.form; clear ho2 hb2)
  have HBP := Lib.hid hbp'
  clear p0 p1 p2 hbp hbp'
  go_cut [7, 8] from 32 (fun d i wc => ∃ (A7 : Option Addr) (c7 : Nat), d = .slice A7 Y.length c7 ∧ St Zf (ObA 5 (.slice A7 Y.length c7) Y :: RfA g (k : Int) (v : Int) (s : Int) (recB L) ((liveL L L.length : Nat) : Int) (lw : Int) :: DfA m (k : Int) (v : Int) (s : Int) L :: BlkA w.heap.size 44 #[.int .i64 kd, .int .i64 id, .slice X D.length c] :: l) w0 wc)
  case first =>
    cases bp
    case false =>
      have h1 : ¬ D.length = 1 := of_decide_eq_false HBP.out
      have HYD : Hid (Y = D) := Lib.hid (by rw [HY.out, putD_not h1])
      clear h1
      go_wp2
      go_meet
      rw [HYD.out]
      exact ⟨A2, c2, rfl, H2.out⟩
    case true =>
      have h1 : D.length = 1 := of_decide_eq_true HBP.out
      obtain ⟨y, hy⟩ : ∃ y, y = nth D 0 := ⟨_, rfl⟩
      have hy8 : y < 256 := by rw [hy]; exact HX.out.1.nth 0
      have HYR : Hid (Y = List.replicate (s - 1) y) := Lib.hid (by rw [HY.out, putD_one h1, hy])
      have HYY := Lib.hid hy
      have HY8 := Lib.hid hy8
      have H3 := Lib.hid H2.out.drop
      have i1 : (0 : Int) < (D.length : Int) := by omega
      have HD1 := Lib.hid h1
      clear h1 hy hy8
      go_wp2
      go_loopw [7, 8] (fun d i wr => ∃ j : Nat, 1 ≤ j ∧ j ≤ s ∧ i = .int .i64 j ∧ St Zf (ObA 5 d (List.replicate (j - 1) y) :: RfA g (k : Int) (v : Int) (s : Int) (recB L) ((liveL L L.length : Nat) : Int) (lw : Int) :: DfA m (k : Int) (v : Int) (s : Int) L :: BlkA w.heap.size 44 #[.int .i64 kd, .int .i64 id, .slice X D.length c] :: l) w0 wr) (fun _ i _ => s - (intOf i).toNat)
      case atStart => exact ⟨1, Nat.le_refl _, Nat.le_trans (by decide) HS.out.1, rfl, H3.out.newNilB _ rfl⟩
      case round =>
        obtain ⟨j, hj1, hj, rfl, hst⟩ := hrel
        clear H3 H2
        obtain ⟨Ad, cd, hAd, -, -, -, -⟩ := hst.ob.form
        generalize List.length _ = nd at hAd
        subst hAd
        obtain ⟨Ah, ch, x0, x1, x2, x3⟩ := df_head hst.bring2
        obtain ⟨p0, p1, p2⟩ := opCells3 hst.bring3
        by_cases hlt : j < s
        · obtain ⟨bx, ox, hXa, -, hcx⟩ := (hst.rb HX.out (Nat.le_refl _)).at_ (k := 0) (by have := HD1.out; omega)
          rw [← HYY.out, Nat.add_zero] at hcx
          have HST := Lib.hid hst
          have hjI : (j : Int) < (s : Int) := by omega
          have hsI : (s : Int) ≤ 255 := by have := HS.out; omega
          have HRP : Hid (List.replicate (j - 1) y ++ [y] = List.replicate (j + 1 - 1) y) := Lib.hid (by rw [← List.replicate_succ']; congr 1; omega)
          have HRL : Hid ((List.replicate (j - 1) y).length + 1 ≤ 140737488355328) := Lib.hid (by rw [List.length_replicate]; have := HS.out; omega)
          have HJ : Hid (1 ≤ j + 1) := Lib.hid (by omega)
          clear hst hj1 hj
          subst hXa
          go_wp2_with (at_builtin; refine wpList_append_lit8 _ rfl _ _ 34 rfl 0 5 i0 Tryd.underlying34 hi hz0 hz1 hz2 (.slice Ad nd cd) (List.replicate (j - 1) y) y (by rfl) HST.out.ob (by rfl) _ rfl HY8.out HRL.out (Nat.zero_le _) ?_; intro v8 w8 hown8 hg8 hat8; have h8 := HST.out.grewOb hown8 hg8 hat8 (by simp); rw [HRP.out] at h8; have H8 := Lib.hid h8; clear hown8 hg8 hat8 h8)
          go_roundw
          case rel => exact ⟨j + 1, HJ.out, hlt, by go_num, H8.out⟩
          case measure => exact meas_lt hlt
        · obtain rfl : s = j := by omega
          have hjI : ¬ (s : Int) < (s : Int) := by omega
          rw [← HYR.out] at hst
          obtain ⟨A9, c9, hA9, -, -, -, -⟩ := hst.ob.form
          have HST := Lib.hid hst
          have HA9 := Lib.hid hA9
          clear hst hj1 hj hA9
          go_wp2
          go_meet
          have h9 := HST.out
          rw [HA9.out] at h9
          exact ⟨A9, c9, HA9.out, h9⟩
  case rest =>
    obtain ⟨A7, c7, rfl, hst⟩ := hcut
    have HC := Lib.hid (lawClone_any A7 c7 wc.heap.size Y wc hst.ob.reads.2.1 (Nat.le_refl _) HYC.out)
    have H7 := Lib.hid hst
    obtain ⟨p0, p1, p2⟩ := opCells3 hst.bring3
    clear hst H2 H6 HCL
    obtain ⟨E, hE⟩ : ∃ E, E = putErr s id Y.length := ⟨_, rfl⟩
    have HE := Lib.hid hE
    have e0 : (E == E) = true := by simp
    by_cases he : E = 0
    case neg =>
      have HNE : Hid (putErr s id Y.length ≠ 0) := Lib.hid (by rw [← hE]; exact he)
      clear hE he
      go_wp2_with (first
        | (go_at_call 18; refine (HC.out).mono ?_; rintro e w3 ⟨v3, rfl, ho3, hb3⟩; have h3 := H7.out.newOb ho3 hb3; obtain ⟨A3, c3, rfl, -, -, -, -⟩ := ho3.form; have H3 := Lib.hid h3; obtain ⟨p3, p4, p5⟩ := opCells3 h3.bring4; have hp := rfPut_err (A' := A3) (cap' := c3) h3.bring2 HS.out.1 HS.out.2 HNE.out; rw [← HE.out] at hp; have HP := Lib.hid hp; clear h3 ho3 hb3 hp HC)
        | (go_at_call 23; refine (HP.out).mono ?_; rintro e w4 ⟨rfl, rfl⟩)
        | (go_at_call 15; refine (same_yes A3 A7 _ c3 c7 _ _ Y w3 H3.out.ob.reads.2.1 H3.out.swap.ob.reads.2.1 rfl HYM.out).mono ?_; rintro e w5 ⟨rfl, q5, hw5⟩; have h5 := H3.out.drewN q5; rw [← hw5] at h5; have H5 := Lib.hid h5; clear h5 hw5 H3 p3 p4 p5)
        | (go_at_call 21; refine (spoil9 H5.out rfl HYB.out).mono ?_; rintro e w6 ⟨rfl, h6⟩; have H6 := Lib.hid h6; obtain ⟨p6, p7, p8⟩ := opCells3 h6.bring3; have hp := refPut_err (A' := A7) (cap' := c7) h6.bring2 HS.out.1 HS.out.2 HNE.out; rw [← HE.out] at hp; have HP2 := Lib.hid hp; clear h6 hp)
        | (go_at_call 34; refine (HP2.out).mono ?_; rintro e w7 ⟨rfl, rfl⟩))
      go_ret
      exact ⟨rfl, L, lw, HB.out, H6.out.drop.bring2.drop⟩
    case pos =>
      subst he
      obtain ⟨x, hx, hx2, hYs⟩ := putErr_ok hE.symm
      subst hx
      have HYS : Hid (IsBytes Y) := Lib.hid (by
        rw [HY.out]
        unfold putD
        split
        · exact IsBytes.replicate _ (HX.out.1.nth 0)
        · exact HX.out.1)
      obtain ⟨b1, b2, b3⟩ := hb.put (id := x) (Nat.lt_of_lt_of_le (by decide) HS.out.1) hx2 hYs HYS.out
      have hle := liveL_le' L
      have hfew := hb.rw_.few
      have HLV : Hid ((0 : Int) ≤ ((liveL L L.length : Nat) : Int) ∧ ((liveL L L.length : Nat) : Int) ≤ 1099511627776) := Lib.hid (by omega)
      have HB1 := Lib.hid b1
      have HB2 := Lib.hid b2
      have HB3 := Lib.hid b3
      have HX2 := Lib.hid hx2
      have HYL := Lib.hid hYs
      clear hE hx2 hYs b1 b2 b3 hle hfew
      go_wp2_with (first
        | (go_at_call 18; refine (HC.out).mono ?_; rintro e w3 ⟨v3, rfl, ho3, hb3⟩; have h3 := H7.out.newOb ho3 hb3; obtain ⟨A3, c3, rfl, -, -, -, -⟩ := ho3.form; obtain ⟨p3, p4, p5⟩ := opCells3 h3.bring4; have hp := rfPut_ok (id := x) (A' := A3) (cap' := c3) (D := Y) h3.bring2 HS.out.1 HS.out.2 HB.out.rw_.len HB.out.rw_.few HX2.out HLV.out.1 HLV.out.2 h3.ob.reads.2.1 (Nat.le_refl _) HYL.out (fun w' h' => h'.swap.ob.reads.2.1); rw [HB3.out, HB2.out] at hp; have HP := Lib.hid hp; clear h3 ho3 hb3 hp HC)
        | (go_at_call 23; refine (HP.out).mono ?_; rintro e w4 ⟨rfl, h4⟩; have H4 := Lib.hid h4; obtain ⟨p13, p14, p15⟩ := opCells3 h4.bring4; clear h4)
        | (go_at_call 15; refine (same_yes A3 A7 _ c3 c7 _ _ Y w4 H4.out.swap.ob.reads.2.1 H4.out.bring2.ob.reads.2.1 rfl HYM.out).mono ?_; rintro e w5 ⟨rfl, q5, hw5⟩; have h5 := H4.out.drewN q5; rw [← hw5] at h5; have H5 := Lib.hid h5; clear h5 hw5 p13 p14 p15 p3 p4 p5)
        | (go_at_call 21; refine (spoil9 H5.out.swap rfl HYB.out).mono ?_; rintro e w6 ⟨rfl, h6⟩; obtain ⟨p6, p7, p8⟩ := opCells3 h6.bring3; have hp := refPut_ok (id := x) (A' := A7) (cap' := c7) (D := Y) h6.bring2 HS.out.1 HS.out.2 HLL.out HX2.out HYL.out (fun L' w' h' => h'.bring2.ob.reads.2.1); have HP2 := Lib.hid hp; clear h6 hp)
        | (go_at_call 34; refine (HP2.out).mono ?_; rintro e w7 ⟨rfl, h7⟩; have H7b := Lib.hid h7; clear h7))
      go_ret
      exact ⟨rfl, _, lw, HB1.out, (H7b.out.bring2.drop.swap.bring2).drop⟩
set_option maxHeartbeats 400000 in
theorem step_any {w0 w : World} {l : List Ass} [Stable (Sep l)] {g m k v s lw : Nat} {L : List Rc} {kd id : Int} {X : Option Addr} {c : Nat} {D : List Nat}
    (h : St Zf (RfA g (k : Int) (v : Int) (s : Int) (recB L) ((liveL L L.length : Nat) : Int) (lw : Int) :: DfA m (k : Int) (v : Int) (s : Int) L :: l) w0 w) (hb : Bo L s lw) (hs : 2 ≤ s ∧ s ≤ 255) (hk : k < 256 ∧ v < 256) (hT : TabW w0) (hX : RB w0 w0.heap.size X D) (hD : D.length ≤ 140737488351232) (hc : D.length ≤ c) : Calls Tryd.prog 22 #[.pointer (some ⟨g, 0, none⟩), .pointer (some ⟨m, 0, none⟩), .agg #[.int .i64 kd, .int .i64 id, .slice X D.length c]] w (Stepped g m k v s l w0) := by
  obtain ⟨q, hq, hkd⟩ := mask_of kd 7 (by decide)
  rcases q with _ | _ | _ | _ | _ | _ | _ | _ | q
  · exact step_put0 h hb hs hk hT hX hD hc hkd
  · exact step_put1 h hb hs hk hT hX hD hc hkd
  · exact step_put2 h hb hs hk hT hX hD hc hkd
  · exact step_alloc3 h hb hs hk hT hX hD hc hkd
  · exact step_alloc4 h hb hs hk hT hX hD hc hkd
  · exact step_free h hb hs hk hT hX hD hc hkd
  · exact step_get h hb hs hk hT hX hD hc hkd
  · exact step_bytes h hb hs hk hT hX hD hc hkd
  · omega
end Go.Proofs.YtcclcecjidlojaaDoor
