/- What a file tells as its bytes is opened again, for any head and script of calls. -/
import Derived.Test.YtcclcecjidlojaaDoorOpen
import Derived.Test.YtcclcecjidlojaaDoorCards
import Derived.Test.YtcclcecjidlojaaDoorTie
import Derived.Deep.DeepHandedRow
import Derived.Lib.LaidTab
import Derived.Test.YtcclcecjidlojaaDoorRfLaid
import Derived.Test.YtcclcecjidlojaaDoorRfSpeak
import Derived.Test.YtcclcecjidlojaaDoorRfThereA
import Derived.Deep.QuietTactic
import Derived.BigQuiet
import Derived.Deep.RegionHeld3
import Derived.Deep.Cut
namespace Go.Proofs.YtcclcecjidlojaaDoor.recfileThere
open Go.ChangeShapes Go.WideShapes Go.ChangeAt Go.RowKit
open Go.ChangeMaps (open_string shut_string)
set_option linter.unusedVariables false
set_option linter.unusedSimpArgs false

set_option maxRecDepth 100000 in
set_option maxHeartbeats 2000000 in
theorem walk (w : World) (hT : TabW w) {K V S : Int} (hx : (-9223372036854775808 ≤ K ∧ K ≤ 9223372036854775807) ∧ (-9223372036854775808 ≤ V ∧ V ≤ 9223372036854775807) ∧ (-9223372036854775808 ≤ S ∧ S ≤ 9223372036854775807)) {A' : Option Addr} {L : List Opv} {c' : Nat} (hy : Ops w w.heap.size A' L ∧ L.length * 40 ≤ 140737488351232) :
    Calls Tryd.prog 7 #[.agg #[.int .i64 K, .int .i64 V, .int .i64 S], .slice A' L.length c'] w fun e w' => e = .returned (.bool true) ∧ Below w.heap.size w w' := by
  obtain ⟨i0, hi, hz0, hz1, hz2⟩ := info_parts u8_info
  have HT := Lib.hid hT
  have HO := Lib.hid hy.1
  have HOL := Lib.hid hy.2
  obtain ⟨k, hk, ek⟩ : ∃ n : Nat, n ≤ 255 ∧ bits .and .i64 K 255 = (n : Int) := mask_of K 255 (by decide)
  obtain ⟨v, hv, ev⟩ : ∃ n : Nat, n ≤ 255 ∧ bits .and .i64 V 255 = (n : Int) := mask_of V 255 (by decide)
  obtain ⟨m, hm, em⟩ : ∃ n : Nat, n ≤ 63 ∧ bits .and .i64 S 63 = (n : Int) := mask_of S 63 (by decide)
  obtain ⟨s, hs⟩ : ∃ s, s = m + 2 := ⟨_, rfl⟩
  obtain ⟨z, hz⟩ : ∃ z, z = m + 1 := ⟨_, rfl⟩
  have es := wadd2 hm hs
  have ez := wadd1 hm hz
  have HEW := Lib.hid (wadd1w hm hz)
  have HS := Lib.hid (there_facts hk hv hm hs hz)
  have HE := Lib.hid (newErr_ok HS.out.2.2.2.1 HS.out.2.2.2.2 HS.out.1 HS.out.2.1)
  have h1 := (St.start Zf w).newBlk 24 #[.int .i64 K, .int .i64 V, .int .i64 S]
  have H1 := Lib.hid h1
  have HT1 := Lib.hid (HT.out.below h1.bel HT.out.1)
  clear hT hx hy h1 hk hv hm hs hz
  go_enter Tryd.func7, Tryd.ntmps7
  go_upto_region 6 with (first
    | (go_at_call 11; refine (speaks9_any _ HT1.out).mono ?_; rintro e w1 ⟨rfl, hb1⟩; have h2 := H1.out.below hb1; have H2 := Lib.hid h2; obtain ⟨p0, p1, p2⟩ := headCells h2; have HN := Lib.hid (rfNew_ok h2 (k : Int) (v : Int) (s : Int) HE.out); clear hb1 h2)
    | (go_at_call 12; (with_reducible refine (HN.out).mono ?_); rintro e w3 ⟨g, rfl, h3⟩; have H3 := Lib.hid h3; clear h3 p0 p1 p2))
  clear H1 H2 HT1 HN HE
  go_wp2_with fail
  go_loopw [32] (fun i wr => ∃ (j lw n : Nat) (R : List Nat), j ≤ L.length ∧ i = .int .i64 j ∧ RW R s n lw ∧ Zr R s ∧ St Zf [RfA g (k : Int) (v : Int) (s : Int) R (liveN R s n : Nat) (lw : Int), BlkA w.heap.size 24 #[.int .i64 K, .int .i64 V, .int .i64 S]] w wr) (fun i _ => L.length - (intOf i).toNat)
  case atStart => exact ⟨0, 0, 0, [], Nat.zero_le _, rfl, ⟨by simp, by omega, by omega, fun j h => absurd h (Nat.not_lt_zero _)⟩, Zr.nil s, H3.out⟩
  case round =>
    obtain ⟨j, lw, n, R, hj, rfl, hw, hzr, hst⟩ := hrel
    clear H3
    by_cases hlt : j < L.length
    · obtain ⟨ob, off, rfl, hbB, X, xl, xc, q0, q1, q2, hr0, hr1⟩ := HO.out _ _ (opAt_get hlt)
      generalize opAt L j = o at *
      obtain ⟨kd, id⟩ := o
      simp only at q0 q1 q2
      have h6 := (hst.newBlk 44 #[.int .i64 kd, .int .i64 id, .slice X xl xc]).swap
      have k0 := (hst.old (p := ⟨ob, off + j * 3, none⟩) hbB).trans q0
      have k1 := (hst.old (p := ⟨ob, off + j * 3 + 1, none⟩) hbB).trans q1
      have k2 := (hst.old (p := ⟨ob, off + j * 3 + 2, none⟩) hbB).trans q2
      obtain ⟨p0, p1, p2⟩ := headCells h6.bring2
      have hjw : wrap64 ((j : Int) + 1) = (j : Int) + 1 := rfwrap (by omega) (by have := HOL.out; omega)
      obtain ⟨x, hx, ex⟩ : ∃ n : Nat, n ≤ 255 ∧ bits .and .i64 id 255 = (n : Int) := mask_of id 255 (by decide)
      have HX : Hid (x < 65536) := Lib.hid (by omega)
      have HLV : Hid (0 ≤ ((liveN R s n : Nat) : Int) ∧ ((liveN R s n : Nat) : Int) ≤ 65536) := Lib.hid (by have := liveN_le (R := R) s n; have := hw.few; omega)
      have HW := Lib.hid hw
      have HZ := Lib.hid hzr
      have H6 := Lib.hid h6
      have HLT := Lib.hid hlt
      clear q0 q1 q2 hr0 hr1 hst hw hzr h6 hbB hx
      have HEM := Lib.hid em
      have HEZ := Lib.hid ez
      clear ek ev em es ez hj
      by_cases hk2 : bits .and .i64 kd 3 = 2
      · clear ex p0 p1 p2
        by_cases hfull : liveN R s n = 65536
        · have h7 := H6.out
          rw [hfull] at h7
          have h7 : St Zf _ w _ := h7
          have HA := Lib.hid (rfAlloc_full (n := 0) h7)
          clear h7 hfull
          go_wp2_with (go_at_call 24; refine (HA.out).mono ?_; rintro e w6 ⟨rfl, rfl⟩)
          go_roundw
          case rel => exact ⟨j + 1, lw, n, R, HLT.out, by go_num, HW.out, HZ.out, H6.out.swap.drop⟩
          case measure => first | exact meas_lt hlt | (rw [hjw]; exact meas_lt hlt)
        · have HNF := Lib.hid hfull
          have HA := Lib.hid (rfAlloc_ok H6.out HS.out.1 HS.out.2.1 HW.out.len HW.out.few HLV.out.1 (by have := HLV.out.2; have := HNF.out; omega) HW.out.low)
          clear hfull
          go_wp2_with (go_at_call 24; refine (HA.out).mono ?_; rintro e w6 ⟨F, hF1, hF2, hFa, hFu, rfl, h6⟩; have hw6 := HW.out.take (Nat.lt_of_lt_of_le (by decide) HS.out.1) hF2 hF1 hFa hFu HNF.out; rw [hw6.2] at h6; have HW6 := Lib.hid hw6.1; have H7 := Lib.hid h6; clear h6 hw6 hF1 hF2 hFa hFu)
          go_roundw
          case rel => exact ⟨j + 1, _, _, _, HLT.out, by go_num, HW6.out, (HZ.out.grow _).flag _, H7.out.swap.drop⟩
          case measure => first | exact meas_lt hlt | (rw [hjw]; exact meas_lt hlt)
      · by_cases hk01 : bits .and .i64 kd 3 = 0 ∨ bits .and .i64 kd 3 = 1
        · obtain ⟨D, hD⟩ : ∃ D, D = List.replicate z 0 := ⟨_, rfl⟩
          have HD := Lib.hid hD
          have HDL : Hid (D.length + 1 = s) := Lib.hid (by rw [hD, List.length_replicate]; exact HS.out.2.2.1)
          have hst2 := put_step (id := x) HW.out HZ.out HS.out.1 HX.out HS.out.2.2.1
          rw [← hD] at hst2
          have HST2 := Lib.hid hst2
          have HZL : Hid ((0 : Int) ≤ (z : Int) ∧ z ≤ 255) := Lib.hid (by have := HS.out; omega)
          have hem := HEM.out
          clear hD hst2
          have HF := Lib.hid fun (w' : World) (h' : St Zf [BlkA wr.heap.size 44 #[.int .i64 kd, .int .i64 id, .slice X xl xc], BlkA w.heap.size 24 #[.int .i64 K, .int .i64 V, .int .i64 S]] w w') => And.intro (opCells h') (headCells h'.drop).2.2
          have H7 := Lib.hid H6.out.drew
          rcases hk01 with hk0 | hk0
          all_goals
            go_upto_region 13 with fail
            obtain ⟨y0, y1⟩ := HF.out _ H6.out.drop
            have hew := HEW.out
            refine wp_region_held_drew (S := (fun w' => w'.cell? ⟨wr.heap.size, 1, none⟩ = some (.int .i64 id) ∧ w'.cell? ⟨w.heap.size, 2, none⟩ = some (.int .i64 S))) (by kernel_rfl) (by (try dsimp only); go_keep) (fun hHeld => ?_)
            refine wpAnyH_take (i := 0) (v := ?_) rfl (by kernel_rfl) (by kernel_rfl) (by kernel_rfl) (fun _ _ _ h => h) (Or.inl ⟨by rfl, ?_⟩) (by assumption) ?_
            rotate_left
            · (intro w hSw; (try dsimp only at hSw); go_simp; try with_reducible rfl)
            try simp only [Act.put, List.getElem_toArray, List.getElem_cons_zero, List.getElem_cons_succ, List.setIfInBounds_toArray, List.set_cons_zero, List.set_cons_succ]
            refine wpAnyH_take (i := 1) (v := ?_) rfl (by kernel_rfl) (by kernel_rfl) (by kernel_rfl) (fun _ _ _ h => h) (Or.inl ⟨by rfl, ?_⟩) (by assumption) ?_
            rotate_left
            · (intro w hSw; (try dsimp only at hSw); go_simp; try with_reducible rfl)
            try simp only [Act.put, List.getElem_toArray, List.getElem_cons_zero, List.getElem_cons_succ, List.setIfInBounds_toArray, List.set_cons_zero, List.set_cons_succ]
            refine wpAnyH_take (i := 2) (v := ?_) rfl (by kernel_rfl) (by kernel_rfl) (by kernel_rfl) (fun _ _ _ h => h) (Or.inl ⟨by rfl, ?_⟩) (by assumption) ?_
            rotate_left
            · (intro w hSw; (try dsimp only at hSw); go_simp; try with_reducible rfl)
            try simp only [Act.put, List.getElem_toArray, List.getElem_cons_zero, List.getElem_cons_succ, List.setIfInBounds_toArray, List.set_cons_zero, List.set_cons_succ]
            refine wpAnyH_take (i := 3) (v := ?_) rfl (by kernel_rfl) (by kernel_rfl) (by kernel_rfl) (fun _ _ _ h => h) (Or.inl ⟨by rfl, ?_⟩) (by assumption) ?_
            rotate_left
            · (intro w hSw; (try dsimp only at hSw); go_simp; try with_reducible rfl)
            try simp only [Act.put, List.getElem_toArray, List.getElem_cons_zero, List.getElem_cons_succ, List.setIfInBounds_toArray, List.set_cons_zero, List.set_cons_succ]
            refine wpAnyH_take (i := 4) (v := ?_) rfl (by kernel_rfl) (by kernel_rfl) (by kernel_rfl) (fun _ _ _ h => h) (Or.inl ⟨by rfl, ?_⟩) (by assumption) ?_
            rotate_left
            · (intro w hSw; (try dsimp only at hSw); go_simp; try with_reducible rfl)
            try simp only [Act.put, List.getElem_toArray, List.getElem_cons_zero, List.getElem_cons_succ, List.setIfInBounds_toArray, List.set_cons_zero, List.set_cons_succ]
            refine wpAnyH_take (i := 5) (v := ?_) rfl (by kernel_rfl) (by kernel_rfl) (by kernel_rfl) (fun _ _ _ h => h) (Or.inl ⟨by rfl, ?_⟩) (by assumption) ?_
            rotate_left
            · (intro w hSw; (try dsimp only at hSw); go_simp; try with_reducible rfl)
            try simp only [Act.put, List.getElem_toArray, List.getElem_cons_zero, List.getElem_cons_succ, List.setIfInBounds_toArray, List.set_cons_zero, List.set_cons_succ]
            refine wpAnyH_take (i := 6) (v := ?_) rfl (by kernel_rfl) (by kernel_rfl) (by kernel_rfl) (fun _ _ _ h => h) (Or.inl ⟨by rfl, ?_⟩) (by assumption) ?_
            rotate_left
            · (intro w hSw; (try dsimp only at hSw); go_simp; try with_reducible rfl)
            try simp only [Act.put, List.getElem_toArray, List.getElem_cons_zero, List.getElem_cons_succ, List.setIfInBounds_toArray, List.set_cons_zero, List.set_cons_succ]
            refine wpAnyH_take (i := 7) (v := ?_) rfl (by kernel_rfl) (by kernel_rfl) (by kernel_rfl) (fun _ _ _ h => h) (Or.inl ⟨by rfl, ?_⟩) (by assumption) ?_
            rotate_left
            · (intro w hSw; (try dsimp only at hSw); go_simp; try with_reducible rfl)
            try simp only [Act.put, List.getElem_toArray, List.getElem_cons_zero, List.getElem_cons_succ, List.setIfInBounds_toArray, List.set_cons_zero, List.set_cons_succ]
            refine wpAnyH_ready (rs := [8]) (by kernel_rfl) (by simp) ?_
            refine AllReadyH.cons rfl (fun K hK => ?_) AllReadyH.nil
            refine step_make_full _ (by rfl) _ _ _ (by rfl) 0 5 i0 (.int .u8 0) 1 Tryd.underlying34 hi hz0 hz1 z (by rfl) (by rfl) (by have := HZL.out; rw [hz2]; omega) (by have := HZL.out; unfold maxLen; omega) (Nat.zero_le _) (wr.heap.size + 1) (by simp) ?_
            intro w8 hown8 hg8
            have ho8 := OB.zeros hown8
            rw [← HD.out] at ho8
            have h8 := (H7.out.nilOb 5).grewOb ho8 hg8 (.inr rfl) (by simp)
            have HZD : Hid (D.length = z) := Lib.hid (by have := HDL.out; have := HS.out.2.2.1; omega)
            have HP := Lib.hid (rfPut_ok (id := x) (D := D) (cap' := z) h8.swap HS.out.1 HS.out.2.1 HW.out.len HW.out.few HX.out HLV.out.1 (by have := HLV.out.2; omega) h8.ob.reads.2.1 (Nat.le_refl _) HDL.out (fun w' h' => h'.swap.ob.reads.2.1))
            rw [HZD.out] at HP
            have H8 := Lib.hid h8.swap
            obtain ⟨y4, y5⟩ := HF.out _ H8.out.drop.drop
            clear hown8 hg8 ho8 h8
            refine hK.out _ _ (by (try dsimp only); go_keep) (fun hHeld => ?_)
            clear hK K
            try simp only [Act.put, List.getElem_toArray, List.getElem_cons_zero, List.getElem_cons_succ, List.setIfInBounds_toArray, List.set_cons_zero, List.set_cons_succ]
            refine wpAnyH_ready (rs := [9]) (by kernel_rfl) (by simp) ?_
            refine AllReadyH.cons rfl (fun K hK => ?_) AllReadyH.nil
            go_simp
            go_at_call 23
            refine (HP.out).mono ?_
            rintro e w9 ⟨rfl, h9⟩
            rw [HST2.out.2.2] at h9
            have H9 := Lib.hid h9
            obtain ⟨y6, y7⟩ := HF.out _ H9.out.drop.drop
            clear h9 HP
            refine hK.out _ _ (by (try dsimp only); go_keep) (fun hHeld => ?_)
            clear hK K
            try simp only [Act.put, List.getElem_toArray, List.getElem_cons_zero, List.getElem_cons_succ, List.setIfInBounds_toArray, List.set_cons_zero, List.set_cons_succ]
            refine wpAnyH_done (by kernel_rfl) ?_ _
            clear hew hem
            go_wp2
            go_roundw
            case rel => exact ⟨j + 1, _, _, _, HLT.out, by go_num, HST2.out.1, HST2.out.2.1, H9.out.swap.drop.swap.drop⟩
            case measure => first | exact meas_lt hlt | (rw [hjw]; exact meas_lt hlt)
        · have hk0 : ¬ bits .and .i64 kd 3 = 0 := fun h => hk01 (.inl h)
          have hk1 : ¬ bits .and .i64 kd 3 = 1 := fun h => hk01 (.inr h)
          clear hk01 p0 p1 p2
          by_cases hu : usedB R s n (x : Int) = true
          · have hf := HW.out.free (id := x) (Nat.lt_of_lt_of_le (by decide) HS.out.1) (used_nat hu).1 (used_nat hu).2
            have HFR := Lib.hid (rfFree_ok H6.out HS.out.1 HS.out.2.1 HW.out.len HW.out.few hu HLV.out.1 (by have := HLV.out.2; omega))
            rw [hf.2] at HFR
            have HW2 := Lib.hid hf.1
            have HZ2 := Lib.hid (free_step HW.out.len HZ.out (used_nat hu).1)
            clear hu hf
            go_wp2_with (go_at_call 25; refine (HFR.out).mono ?_; rintro e w5 ⟨rfl, h5⟩; have H5 := Lib.hid h5; clear h5)
            go_roundw
            case rel => exact ⟨j + 1, _, _, _, HLT.out, by go_num, HW2.out, HZ2.out, H5.out.swap.drop⟩
            case measure => first | exact meas_lt hlt | (rw [hjw]; exact meas_lt hlt)
          · have hu' : usedB R s n (x : Int) = false := by simpa using hu
            have HFR := Lib.hid (rfFree_no H6.out HS.out.1 HS.out.2.1 HW.out.len HW.out.few hu')
            clear hu hu'
            go_wp2_with (go_at_call 25; refine (HFR.out).mono ?_; rintro e w5 ⟨rfl, h5⟩; have H5 := Lib.hid h5; clear h5)
            go_roundw
            case rel => exact ⟨j + 1, _, _, _, HLT.out, by go_num, HW.out, HZ.out, H5.out.swap.drop⟩
            case measure => first | exact meas_lt hlt | (rw [hjw]; exact meas_lt hlt)
    · obtain rfl : j = L.length := by omega
      have hl := there_len (k := k) (v := v) hw.len hw.few HS.out.2.1
      obtain ⟨F, hF⟩ : ∃ F, F = rfBytes k v s n R := ⟨_, rfl⟩
      rw [← hF] at hl
      obtain ⟨P, hP⟩ : ∃ P, P = n * s := ⟨_, rfl⟩
      rw [← hP] at hl
      have hPb : P ≤ 16711680 := hl.2
      have m1 : (n : Int) * (s : Int) = (P : Int) := by rw [hP, Int.natCast_mul]
      have e1 : ((F.length : Int) == (16 + (P : Int))) = true := by rw [hl.1]; simp
      have e2 : decide ((F.length : Int) = (16 + (P : Int))) = true := by rw [hl.1]; simp
      have HFL : Hid (F.length ≤ 140737488355328) := Lib.hid (by omega)
      have HFM : Hid (F.length ≤ maxLen) := Lib.hid (by unfold maxLen; omega)
      have HSS : Hid (0 < s) := Lib.hid (by have := HS.out.1; omega)
      have hb := rfBytes_any hst HS.out.1 HS.out.2.1 hw.len hw.few HS.out.2.2.2.1 HS.out.2.2.2.2 (HT.out.below hst.bel HT.out.1)
      rw [← hF] at hb
      have HB := Lib.hid hb
      have HF := Lib.hid hF
      have HW := Lib.hid hw
      have HZ := Lib.hid hzr
      clear ek ev em es ez hj hl hF hP hb hw hzr hst hlt
      go_upto_region 18 with (go_at_call 16; refine (HB.out).mono ?_; rintro e w4 ⟨x, rfl, h4⟩; obtain ⟨A4, c4, rfl, -, -, -, -⟩ := h4.ob.form; have H4 := Lib.hid h4; clear h4)
      clear HB
      go_upto_region 19 with (first
        | (go_at_call 18; refine (lawClone_any A4 c4 w4.heap.size F w4 H4.out.ob.reads.2.1 (Nat.le_refl _) HFL.out).mono ?_; rintro e w5 ⟨v5, rfl, ho5, hb5⟩; have h5 := H4.out.newOb ho5 hb5; obtain ⟨A5, c5, rfl, -, -, -, -⟩ := ho5.form; have HO := Lib.hid (thereOpen HF.out HS.out.2.2.2.1 HS.out.2.2.2.2 HS.out.1 HS.out.2.1 HW.out.few HW.out.len HZ.out h5 (HT.out.below h5.bel HT.out.1)); clear h5 ho5 hb5)
        | (go_at_call 19; refine (HO.out).mono ?_; rintro e w6 ⟨g6, rfl, h6⟩; have hb := rfBytes_any h6 HS.out.1 HS.out.2.1 HW.out.len HW.out.few HS.out.2.2.2.1 HS.out.2.2.2.2 (HT.out.below h6.bel HT.out.1); rw [← HF.out] at hb; have HB6 := Lib.hid hb; clear h6 hb HO))
      go_wp2_with (first
        | (go_at_call 16; refine (HB6.out).mono ?_; rintro e w7 ⟨x7, rfl, h7⟩; obtain ⟨A7, c7, rfl, -, -, -, -⟩ := h7.ob.form; have H7 := Lib.hid h7; clear h7 HB6)
        | (go_at_call 15; refine (same_yes A7 A4 _ c7 c4 _ _ F w7 H7.out.ob.reads.2.1 H7.out.bring3.ob.reads.2.1 rfl HFM.out).mono ?_; rintro e w8 ⟨rfl, q8, hw8⟩; have h8 := H7.out.drewN q8; rw [← hw8] at h8; have HC1 := Lib.hid (rfCount_st h8.swap HSS.out HW.out.len HW.out.few); clear hw8 h8)
        | (go_at_call 26; (with_reducible refine (HC1.out).mono ?_); rintro e w9 ⟨rfl, h9⟩; have HC2 := Lib.hid (rfCount_st h9.bring4 HSS.out HW.out.len HW.out.few); clear h9 HC1)
        | (go_at_call 26; (with_reducible refine (HC2.out).mono ?_); rintro e w10 ⟨rfl, h10⟩; have HL2 := Lib.hid (rfLive_any h10); have HL1 := Lib.hid (rfLive_any h10.swap); have HC3 := Lib.hid (rfCount_st h10 HSS.out HW.out.len HW.out.few); clear h10 HC2)
        | (go_at_call 27; (with_reducible refine (HL1.out).mono ?_); rintro e w11 ⟨rfl, rfl⟩; clear HL1)
        | (go_at_call 27; (with_reducible refine (HL2.out).mono ?_); rintro e w11 ⟨rfl, rfl⟩; clear HL2)
        | (go_at_call 26; (with_reducible refine (HC3.out).mono ?_); rintro e w12 ⟨rfl, h12⟩; have HZ1 := Lib.hid (rfSize_any h12); have H12 := Lib.hid h12.bel; clear h12 HC3)
        | (go_at_call 28; (with_reducible refine (HZ1.out).mono ?_); rintro e w13 ⟨rfl, rfl⟩; clear HZ1))
      go_ret
      exact ⟨rfl, H12.out⟩

/-! ### THE ROW's STEP -/
theorem own : ownKnob Tryd.prog.godebug = none := by kernel_rfl
theorem laidOut : laidOutB Tryd.prog = true := by kernel_rfl

set_option maxRecDepth 100000 in
set_option maxRecDepth 100000 in
theorem contract (H : Type) (enc : TypeId × Value → H) (W : World) (base : Nat) (args : Array Value) (ds gs : List (DataW H)) (before : List MemPlace)
    (hval0 : ∀ (j : Nat) t v, Tryd.f7.params[j]? = some t → args[j]? = some v → Value.okWide Tryd.prog W .any base t v)
    (hW : DataW.Whole enc Tryd.prog Tryd.f7.params.toList Rows.recfileThereSpec.vars false W args.toList ds gs before)
    (hsz : (DataW.weightsEach Tryd.prog (Tryd.f7.params.toList ++ (OpenSpec.ofChange Rows.recfileThereSpec).bare.plain.varTypes Tryd.prog) (ds ++ gs)).all (· ≤ reachBytes) = true) (hL : laidMetH Tryd.prog Rows.recfileThereRow.laid W) :
    Calls Tryd.prog 7 args W fun e W' => ∃ v, e = .returned v ∧ Rows.recfileThereSpec.post enc Tryd.prog Tryd.f7 false true false false W args v W' := by
  have hval : ∀ (j : Nat) t v, Tryd.f7.params[j]? = some t → args[j]? = some v → Value.okWide Tryd.prog W .any base t v := hval0
  have hW' := hW
  have hTab := Lib.hid (tabs_of hL)
  clear hL
  obtain ⟨p, q, hA0, hV, rfl, hfz, hnd⟩ := hW
  have hA : DataW.TrodAll enc Tryd.prog W 0 (fun _ => true) true Tryd.f7.params.toList args.toList ds p := hA0
  rw [Tryd.params7] at hA hval
  obtain ⟨v0, vs0, d0, ds0, p0, q0, hargs, rfl, rfl, h0, r0⟩ := trodAll_cons hA
  obtain ⟨v1, vs1, d1, ds1, p1, q1, rfl, rfl, rfl, h1, r1⟩ := trodAll_cons r0
  obtain ⟨rfl, rfl, rfl⟩ := trodAll_nil r1
  obtain rfl : args = #[v0, v1] := by cases args; simp_all
  obtain ⟨rfl, rfl⟩ := trodVars_none hV
  have k0 := h0
  have lt0 : ∀ x ∈ p0, x.block < W.heap.size := by obtain ⟨m, hm⟩ := k0; exact DataW.trod_lt m _ _ _ hm
  have w0 := reach_at hsz (j := 0) rfl rfl
  have k1 := h1
  have lt1 : ∀ x ∈ p1, x.block < W.heap.size := by obtain ⟨m, hm⟩ := k1; exact DataW.trod_lt m _ _ _ hm
  have w1 := reach_at hsz (j := 1) rfl rfl
  clear hA0 hval0 hsz
  obtain ⟨K0, V0, S0, rfl, hx0⟩ := open_head (hval 0 _ v0 rfl rfl) w0 h0 lt0
  obtain ⟨A1, L1, c1, rfl, hx1⟩ := open_script (hval 1 _ v1 rfl rfl) w1 h1 lt1
  refine (walk W hTab.out hx0 hx1).mono fun e W' ⟨he, bel⟩ => ?_
  subst he
  exact ⟨_, rfl, _, _, _, [], _, [], hW', trodAll_mk1 (shut_bool Tryd.underlying4 _), (trodAll_cons_mk (Below.trod laidOut (by kernel_rfl) (of_decide_eq_true (by kernel_rfl)) k0 bel lt0) (trodAll_cons_mk (Below.trod laidOut (by kernel_rfl) (of_decide_eq_true (by kernel_rfl)) k1 bel lt1) trodAll_mk0)), rfl, bel.frame _, fun h => by cases h⟩

set_option maxRecDepth 100000 in
theorem laid_met (os : Os) : laidMet Tryd.prog Rows.recfileThereRow.laid ((laidWorldN os).forCall (fun _ _ => 0) ⟨#[], #[.agg #[.int .i64 0, .int .i64 0, .int .i64 0], .slice none 0 0], []⟩).memory :=
  laidMet_of_run3 8 (by kernel_rfl) (by kernel_rfl) (by kernel_rfl)
theorem reads (os : Os) {H : Type} (enc : TypeId × Value → H) : ∃ places, DataW.whole enc Tryd.prog ((laidWorldN os).forCall (fun _ _ => 0) ⟨#[], #[.agg #[.int .i64 0, .int .i64 0, .int .i64 0], .slice none 0 0], []⟩).memory Tryd.f7.params.toList Rows.recfileThereSpec.vars false (#[.agg #[.int .i64 0, .int .i64 0, .int .i64 0], .slice none 0 0] : Array Value).toList 8 = some ([.agg [.lit (.int .i64 0), .lit (.int .i64 0), .lit (.int .i64 0)], .nil], [], places) :=
  ⟨[], by kernel_rfl⟩

set_option maxRecDepth 100000 in
theorem lifted (os : Os) (started : os.Started) (H : Type) (enc : TypeId × Value → H) (F : Stop.Interp) :
    ReturnsInHanded {} Tryd.checked os 7 .any ((OpenSpec.ofChange Rows.recfileThereSpec).preRow enc Tryd.prog Tryd.f7 Rows.recfileThereRow.domain false Rows.recfileThereRow.laid) (((OpenSpec.ofChange Rows.recfileThereSpec).at F).post enc Tryd.prog Tryd.f7 false true false false) := by
  obtain ⟨places, hx⟩ := reads os enc
  refine returnsInHanded_of_row (C := Tryd.checked) (s := (OpenSpec.ofChange Rows.recfileThereSpec)) own started (by kernel_rfl) Tryd.func7
    (witness_row_at (enc := enc) (C := Tryd.checked) false (laidWorldN os) #[.agg #[.int .i64 0, .int .i64 0, .int .i64 0], .slice none 0 0] rfl (by kernel_rfl) (by kernel_rfl) (by kernel_rfl)
      (OpenSpec.preRow_of_cond 8 hx (by kernel_rfl) (fun k hk => by cases hk) (by kernel_rfl) (laid_met os))) ?_
  intro W base args ds gs before hval hW _ hcond hsz hL _ _
  exact contract H enc W base args ds gs before hval hW hsz hL

theorem said : Rows.RecfileThereSaid :=
  OpenClaim.holds_of_cond 7 Tryd.f7 rfl rfl rfl rfl rfl rfl rfl ⟨rfl, rfl, rfl, rfl, rfl⟩ rfl rfl rfl rfl rfl (by kernel_rfl) Tryd.func7 (by kernel_rfl)
    (of_decide_eq_true (by kernel_rfl)) (by unfold Func.isWrapper; rw [if_neg (of_decide_eq_false (by kernel_rfl))]; exact ⟨rfl, rfl⟩)
    (fun os started H enc _ F => by rw [OpenClaim.pre_eq_preRow]; exact lifted os started H enc F)

theorem noStandIn : ∀ t ∈ ([24, 42] : List TypeId), Tryd.prog.wantsStandIn t = false := by
  intro t ht
  simp only [List.mem_cons, List.not_mem_nil, or_false] at ht
  rcases ht with rfl | rfl
  · exact (show Tryd.prog.wantsStandIn 24 = false by kernel_rfl)
  · exact (show Tryd.prog.wantsStandIn 42 = false by kernel_rfl)
theorem plain (f : FuncId) (fn : Func) (hf : Tryd.pinned.checked.prog.funcNamed "satchel/satchellaw09.RecfileThere" = some f) (hfn : Tryd.pinned.checked.prog.funcs[f]? = some fn) :
    false = Tryd.pinned.checked.prog.looks [] ∧ ∀ (j : Nat) t, fn.params[j]? = some t → Tryd.pinned.checked.prog.wantsStandIn t = false := by
  obtain rfl : f = 7 := Option.some.inj ((show Tryd.prog.funcNamed "satchel/satchellaw09.RecfileThere" = some 7 by kernel_rfl).symm.trans hf) |>.symm
  obtain rfl : fn = Tryd.f7 := (Option.some.inj (Tryd.func7.symm.trans hfn)).symm
  refine ⟨by kernel_rfl, fun j t ht => ?_⟩
  rw [Tryd.params7] at ht
  exact noStandIn t (by simpa using Array.mem_of_getElem? ht)

/-- THE CARD -/
theorem proved : Rows.RecfileThereCardSaid :=
  Claim7.holds_tied_plain_at .later [] _ _ _ _ said (fun _ h => by cases h) (by kernel_rfl) (fun _ h => by cases h) recfileThere_row_tie rfl ⟨rfl, rfl⟩ (by kernel_rfl) rfl plain (by kernel_rfl)
end Go.Proofs.YtcclcecjidlojaaDoor.recfileThere
