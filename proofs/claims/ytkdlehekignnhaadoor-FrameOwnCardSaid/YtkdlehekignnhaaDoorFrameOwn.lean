/- Frames are told in new memory. The table of nibbles stands as the program's text lays it (the card ties it). -/
import Derived.Test.YtkdlehekignnhaaDoorOpen
import Derived.Test.YtkdlehekignnhaaDoorCards
import Derived.Test.YtkdlehekignnhaaDoorTie
import Derived.Deep.DeepHandedRow
import Derived.Lib.LaidTab
import Derived.Test.YtkdlehekignnhaaDoorFrLaw
import Derived.Test.YtkdlehekignnhaaDoorFrOpen
import Derived.Test.YtkdlehekignnhaaDoorApZeros
namespace Go.Proofs.YtkdlehekignnhaaDoor.frameOwn
open Go.ChangeShapes Go.WideShapes Go.ChangeAt Go.RowKit
open Go.ChangeMaps (open_string shut_string)
set_option linter.unusedVariables false
set_option linter.unusedSimpArgs false

theorem two_cells {S : Fp} {l : List Ass} {w0 w : World} {b cx : Nat} {q0 q1 : Fq} (h : St S (OwA frF 2 25 (.slice (some ⟨b, 0, none⟩) 2 cx) [q0, q1] :: l) w0 w) :
    w.cell? ⟨b, 0, none⟩ = some (.int .i64 (q0.t : Int)) ∧ w.cell? ⟨b, 1, none⟩ = some (.slice q0.A q0.d.length q0.c) ∧ w.cell? ⟨b, 2, none⟩ = some (.int .i64 (q1.t : Int)) ∧ w.cell? ⟨b, 3, none⟩ = some (.slice q1.A q1.d.length q1.c) := by
  obtain ⟨A', c', e', -, -, hrr3⟩ := own_formR h.ow
  simp only [Value.slice.injEq] at e'
  obtain ⟨rfl, -, rfl⟩ := e'
  obtain ⟨b', o', e', -, hcl⟩ := hrr3.all frF_row (by show 0 < 2; decide)
  simp only [Option.some.injEq, Addr.mk.injEq] at e'
  obtain ⟨rfl, rfl, -⟩ := e'
  exact ⟨by simpa using (hcl 0 _ rfl) 0 _ rfl, by simpa using (hcl 0 _ rfl) 1 _ rfl, by simpa using (hcl 1 _ rfl) 0 _ rfl, by simpa using (hcl 1 _ rfl) 1 _ rfl⟩
set_option maxRecDepth 100000 in
set_option maxHeartbeats 4000000 in
theorem walk (w : World) (hT : TabW w) {t : Int} {A : Option Addr} {c : Nat} {d : List Nat} (hx : (-9223372036854775808 ≤ t ∧ t ≤ 9223372036854775807) ∧ (RB w w.heap.size A d ∧ d.length ≤ c ∧ c ≤ 140737488351232)) :
    Calls Tryd.prog 10 #[.agg #[.int .i64 t, .slice A d.length c]] w fun e w' => e = .returned (.bool true) ∧ Below w.heap.size w w' := by
  have h0 := (St.start Zf w).newBlk 25 #[.int .i64 t, .slice A d.length c]
  obtain ⟨ht, hr, hc, hm⟩ := hx
  have HT := Lib.hid hT
  have HR := Lib.hid hr
  have HL : Hid (d.length ≤ 140737488351232) := Lib.hid (by omega)
  have HLm : Hid (d.length ≤ maxLen) := Lib.hid (by unfold maxLen; omega)
  have HPL : Hid ((packB t d).length ≤ 1048585) := Lib.hid (by
    unfold packB
    split
    · rename_i he
      rw [fbytes_len]
      unfold packErr at he
      split at he
      · cases he
      · split at he
        · cases he
        · omega
    · exact Nat.zero_le _)
  obtain ⟨P, hP⟩ : ∃ P, P = packB t d := ⟨_, rfl⟩
  have HP := Lib.hid hP
  rw [← hP] at HPL
  obtain ⟨m, hmP⟩ : ∃ m, P.length = m := ⟨_, rfl⟩
  have HMP := Lib.hid hmP
  have hm2 : m ≤ 1048585 := by rw [← hmP]; exact HPL.out
  obtain ⟨i0, hi, hz0, hz1, hz2⟩ := info_parts u8_info
  have H0 := Lib.hid h0
  clear h0 hr hc hm ht hP hmP
  go_enter Tryd.func10, Tryd.ntmps10
  go_wp2_with fail
  refine (speaks19_any _ (hT.below H0.out.bel hT.1)).mono ?_
  rintro e w1 ⟨rfl, hb1⟩
  have h1 := H0.out.below hb1
  obtain ⟨c0, c1⟩ := cells2 h1
  have H1 := Lib.hid h1
  clear h1 hb1 hT H0
  go_wp2_with fail
  refine (refPack_any t A c _ d w1 (HR.out.below' H1.out.bel (Nat.le_refl _)) H1.out.size HL.out).mono ?_
  rintro e w2 ⟨v2, rfl, h2⟩
  rw [← HP.out] at h2
  have h3 := H1.out.addStL h2
  obtain ⟨A2, x2, rfl, -, -, -⟩ := h3.obForm HMP.out
  obtain ⟨c20, c21⟩ := cells2 h3.swap
  have H3 := Lib.hid h3
  clear h2 h3 c0 c1 H1
  go_wp2_with fail
  refine (Pack_any t A c _ d w2 (HT.out.below H3.out.bel HT.out.1) (HR.out.below' H3.out.bel (Nat.le_refl _)) H3.out.size HL.out).mono ?_
  rintro e w4 ⟨v4, rfl, h4⟩
  rw [← HP.out] at h4
  have h5 := H3.out.addStL h4
  obtain ⟨A4, x4, rfl, -, -, -⟩ := h5.obForm HMP.out
  obtain ⟨c40, c41⟩ := cells2 h5.bring2
  have H5 := Lib.hid h5
  clear h4 h5 c20 c21 H3
  go_wp2_with fail
  refine (Pack_any t A c _ d w4 (HT.out.below H5.out.bel HT.out.1) (HR.out.below' H5.out.bel (Nat.le_refl _)) H5.out.size HL.out).mono ?_
  rintro e w6 ⟨v6, rfl, h6⟩
  rw [← HP.out] at h6
  have h7 := H5.out.addStL h6
  obtain ⟨A6, x6, rfl, -, -, -⟩ := h7.obForm HMP.out
  have H7 := Lib.hid h7.swap
  clear h6 h7 c40 c41 H5
  go_wp2_with fail
  go_loopw [35] (fun i wr => ∃ (j : Nat) (X : List Nat), j ≤ m ∧ i = .int .i64 j ∧ X.length = m ∧ St Zf [ObA 5 (.slice A4 m x4) X, ObA 5 (.slice A6 m x6) P, ObA 5 (.slice A2 m x2) P, BlkA w.heap.size 25 #[.int .i64 t, .slice A d.length c]] w wr) (fun i _ => m - (intOf i).toNat)
  case atStart => exact ⟨0, P, Nat.zero_le _, rfl, HMP.out, H7.out⟩
  case round =>
    obtain ⟨j, X, hjl, rfl, hX, hst⟩ := hrel
    by_cases hlt : j < m
    · obtain ⟨gg, rfl, ⟨u0, hu0⟩, hfz, hst'⟩ := hst.storeObB hX hlt 238 (by omega)
      have HL' := Lib.hid hX
      have HS := Lib.hid hst'
      clear hst hst' hX
      go_wp2
      go_roundw
      case rel => exact ⟨j + 1, X.set j 238, by omega, by go_num, by rw [List.length_set]; exact HL'.out, HS.out⟩
      case measure => simp [intOf]; omega
    · obtain rfl : j = m := by omega
      have HX := Lib.hid hX
      have HST := Lib.hid hst
      have HLT : Hid (RB (wr.alloc (.cells #[.int .u8 238, .int .u8 238, .int .u8 238, .int .u8 238] 5)) (wr.heap.size + 1) (some ⟨wr.heap.size, 0, none⟩) [238, 238, 238, 238]) := Lib.hid (RB.lit wr 5 (by intro x hx; revert x; decide) _ rfl)
      obtain ⟨wo, hwo⟩ : ∃ q, q = wr := ⟨_, rfl⟩
      rw [← hwo] at HST HLT ⊢
      clear hst hX hlt hjl hwo H7
      go_wp2_with (at_builtin; refine wpList_append_bytes _ rfl _ _ 23 rfl 0 5 i0 Tryd.underlying23 hi hz0 hz1 hz2 (.slice A4 j x4) X (by rfl) (HST.out.alloc _).ob _ 4 _ [238, 238, 238, 238] 4 rfl (by rfl) HLT.out (by rw [HX.out]; omega) (Nat.zero_le _) ?_; intro v9 w9 hown9 hg9 hat9; have h9 := ((HST.out.alloc _).grewOb hown9 hg9 hat9 (Nat.le_refl _)).drop; have H9 := Lib.hid h9; clear hown9 hg9 hat9 h9)
      have HSm := Lib.hid (same_yes A6 A2 j x6 x2 _ _ P w9 H9.out.obR.2.2.2 H9.out.swap.obR.2.2.2 HMP.out (by unfold maxLen; omega))
      refine HSm.out.mono ?_
      rintro e w10 ⟨rfl, q10, hw10⟩
      have h10 := H9.out.drop.drewN q10
      rw [← hw10] at h10
      have H10 := Lib.hid h10
      clear h10 hw10 HSm H9 HLT HST HX
      by_cases he : packErr t d = 0
      · have HPF : Hid (P = fbytes t.toNat d) := Lib.hid (by rw [HP.out]; exact if_pos he)
        have hin : 0 ≤ t ∧ t ≤ 255 ∧ d.length ≤ 1048576 := by
          unfold packErr at he
          split at he
          · cases he
          · split at he
            · cases he
            · omega
        obtain ⟨k, rfl⟩ := Int.eq_ofNat_of_zero_le hin.1
        have HIN := Lib.hid hin
        rw [he]
        clear hin he
        have hcl := cloneA H10.out (cap := x2) H10.out.obR.2.2.2 (Nat.le_refl _) (by rw [HMP.out]; omega)
        rw [HMP.out] at hcl
        have HCl := Lib.hid hcl
        clear hcl
        go_wp2_with fail
        refine HCl.out.mono ?_
        rintro e w11 ⟨A11, x11, rfl, -, -, h11⟩
        have H11 := Lib.hid h11
        have HPR := Lib.hid h11.swap.obR.2.2.2
        clear h11 H10 HCl
        go_wp2_with (at_builtin; refine wpList_append_bytes _ rfl _ _ 23 rfl 0 5 i0 Tryd.underlying23 hi hz0 hz1 hz2 (.slice A11 j x11) P (by rfl) H11.out.ob A2 x2 _ P j HMP.out (by rfl) HPR.out (by rw [HMP.out]; omega) (Nat.zero_le _) ?_; intro v12 w12 hown12 hg12 hat12; have h12 := H11.out.grewOb hown12 hg12 hat12 (Nat.le_refl _); obtain ⟨A12, x12, hv12, -, -, -, -⟩ := hown12.form; rw [List.length_append, HMP.out] at hv12; subst hv12; have H12 := Lib.hid h12; clear hown12 hg12 hat12 h12)
        have HF : Hid (frs (P ++ P) = ([(k, d), (k, d)], 0)) := Lib.hid (by
          rw [HPF.out]
          have hk : k < 256 := by have := HIN.out; omega
          have h1 := frs_fbytes (t := k) (d := d) [] hk HIN.out.2.2 HR.out.1
          rw [List.append_nil, frs_nil] at h1
          have h2 := frs_fbytes (t := k) (d := d) (fbytes k d) hk HIN.out.2.2 HR.out.1
          rw [h1] at h2
          exact h2)
        have hSp := Split_any A12 x12 _ (P ++ P) w12 (HT.out.below H12.out.bel HT.out.1) H12.out.obR.2.2.2 (Nat.le_refl _) (by have := H12.out.obR; rw [List.length_append, HMP.out]; exact this.2.1) H12.out.obR.2.2.1 (by rw [List.length_append, HMP.out]; omega)
        unfold SplitW at hSp
        rw [List.length_append, HMP.out, HF.out] at hSp
        have HSp := Lib.hid hSp
        clear hSp H11 HPR
        refine HSp.out.mono ?_
        rintro e w13 ⟨v13, X13, rfl, h13, hX13⟩
        have hX13 : X13.map Fq.f = [(k, d), (k, d)] := hX13
        obtain ⟨A0, e0, A1, e1, rfl⟩ : ∃ A0 e0 A1 e1, X13 = [⟨k, d, A0, e0⟩, ⟨k, d, A1, e1⟩] := by
          match X13, hX13 with
          | [], h => cases h
          | [_], h => simp at h
          | [⟨t0, d0, A0, e0⟩, ⟨t1, d1, A1, e1⟩], h =>
            simp only [List.map_cons, List.map_nil, Fq.f, List.cons.injEq, Prod.mk.injEq, and_true] at h
            obtain ⟨⟨rfl, rfl⟩, rfl, rfl⟩ := h
            exact ⟨A0, e0, A1, e1, rfl⟩
          | _ :: _ :: _ :: _, h => simp at h
        have h14 := St.flat (H12.out.addStL h13)
        have h15 : St Zf (Sep [datA ⟨k, d, A0, e0⟩, datA ⟨k, d, A1, e1⟩] :: _) w w13 := h14.swap
        have h16 : St Zf (ObA 5 (.slice A0 d.length e0) d :: ObA 5 (.slice A1 d.length e1) d :: OwA frF 2 25 v13 [⟨k, d, A0, e0⟩, ⟨k, d, A1, e1⟩] :: _) w w13 := h15.flat
        obtain ⟨Ax, cx, hvx, -, -, hrr⟩ := h16.bring2.owForm
        have hvx : v13 = .slice Ax 2 cx := hvx
        subst hvx
        obtain ⟨b, ox, rfl, -, -⟩ := hrr.all frF_row (by show 0 < 2; decide)
        have hox : ox = 0 := by
          have h := h16.bring2.ow.2
          rcases h with ⟨h, -⟩ | ⟨b', cap', cur', h, -⟩
          · cases h
          · simp only [Value.slice.injEq, Option.some.injEq, Addr.mk.injEq] at h
            exact h.1.2.1
        subst hox
        have H16 := Lib.hid h16.bring3
        clear h13 h14 h15 h16 hX13 hrr H12 HSp
        go_wp2_with fail
        go_loopw [62] (fun i wr => ∃ (l : Nat) (Z : List Nat), l ≤ j + j ∧ i = .int .i64 l ∧ Z.length = j + j ∧ St Zf [ObA 5 (.slice A12 (j + j) x12) Z, ObA 5 (.slice A0 d.length e0) d, ObA 5 (.slice A1 d.length e1) d, OwA frF 2 25 (.slice (some ⟨b, 0, none⟩) 2 cx) [⟨k, d, A0, e0⟩, ⟨k, d, A1, e1⟩], ObA 5 (.slice A2 j x2) P, BlkA w.heap.size 25 #[.int .i64 (k : Int), .slice A d.length c]] w wr) (fun i _ => j + j - (intOf i).toNat)
        case atStart => exact ⟨0, P ++ P, Nat.zero_le _, rfl, by rw [List.length_append, HMP.out], H16.out⟩
        case round =>
          obtain ⟨l, Z, hll, rfl, hZ, hst⟩ := hrel
          by_cases hlt : l < j + j
          · obtain ⟨gg, rfl, ⟨u0, hu0⟩, hfz, hst'⟩ := hst.storeObB hZ hlt 221 (by omega)
            have HL' := Lib.hid hZ
            have HS := Lib.hid hst'
            have hltI : (l : Int) < (j : Int) + (j : Int) := by omega
            clear hst hst' hZ
            go_wp2
            go_roundw
            case rel => exact ⟨l + 1, Z.set l 221, by omega, by go_num, by rw [List.length_set]; exact HL'.out, HS.out⟩
            case measure => simp [intOf]; omega
          · obtain ⟨wq, hwq⟩ : ∃ q, q = wr := ⟨_, rfl⟩
            have hend : ¬ ((l : Int) < (j : Int) + (j : Int)) := by omega
            rw [← hwq] at hst ⊢
            have H17 := Lib.hid hst.drop
            obtain ⟨d0, d1, -, -⟩ := two_cells hst.bring3
            clear hst hwq hlt hll hZ H16 d0
            go_wp2_with fail
            obtain ⟨n, hn⟩ : ∃ n, d.length = n := ⟨_, rfl⟩
            have HN := Lib.hid hn
            have hn20 : n ≤ 1048576 := by rw [← hn]; exact HIN.out.2.2
            have HS0 : Hid (St Zf (ObA 5 (.slice A0 n e0) d :: _) w wq) := Lib.hid (hn ▸ H17.out)
            rw [hn]
            clear H17 hn d1
            go_loopw [77] (fun i wr => ∃ (l : Nat) (Y : List Nat), l ≤ n ∧ i = .int .i64 l ∧ Y.length = n ∧ St Zf [ObA 5 (.slice A0 n e0) Y, ObA 5 (.slice A1 n e1) d, OwA frF 2 25 (.slice (some ⟨b, 0, none⟩) 2 cx) [⟨k, d, A0, e0⟩, ⟨k, d, A1, e1⟩], ObA 5 (.slice A2 j x2) P, BlkA w.heap.size 25 #[.int .i64 (k : Int), .slice A n c]] w wr) (fun i _ => n - (intOf i).toNat)
            case atStart => exact ⟨0, d, Nat.zero_le _, rfl, HN.out, HS0.out⟩
            case round =>
              obtain ⟨l2, Y, hll, rfl, hY, hst⟩ := hrel
              obtain ⟨-, d1, -, -⟩ := two_cells hst.bring2
              simp only [HN.out] at d1
              by_cases hlt : l2 < n
              · obtain ⟨gg, rfl, ⟨u0, hu0⟩, hfz, hst'⟩ := hst.storeObB hY hlt 238 (by omega)
                have HL' := Lib.hid hY
                have HS := Lib.hid hst'
                clear hst hst' hY HS0
                go_wp2
                go_roundw
                case rel => exact ⟨l2 + 1, Y.set l2 238, by omega, by go_num, by rw [List.length_set]; exact HL'.out, HS.out⟩
                case measure => simp [intOf]; omega
              · obtain rfl : l2 = n := by omega
                have HY := Lib.hid hY
                have HST : Hid (St Zf [ObA 5 (.slice A0 (l2 + 0) e0) Y, ObA 5 (.slice A1 l2 e1) d, OwA frF 2 25 (.slice (some ⟨b, 0, none⟩) 2 cx) [⟨k, Y, A0, e0⟩, ⟨k, d, A1, e1⟩], ObA 5 (.slice A2 j x2) P, BlkA w.heap.size 25 #[.int .i64 (k : Int), .slice A l2 c]] w wr) := Lib.hid (by
                  have e : ([⟨k, Y, A0, e0⟩, ⟨k, d, A1, e1⟩] : List Fq).flatMap frF = ([⟨k, d, A0, e0⟩, ⟨k, d, A1, e1⟩] : List Fq).flatMap frF := by
                    simp only [List.flatMap_cons, List.flatMap_nil, frF, hY, HN.out]
                  have h1 := hst.bring2.mapHead (Q := OwA frF 2 25 (.slice (some ⟨b, 0, none⟩) 2 cx) [⟨k, Y, A0, e0⟩, ⟨k, d, A1, e1⟩]) fun F hF => ⟨by rw [e]; exact hF.1, hF.2⟩
                  exact h1.back2)
                clear hst hY hlt hll HS0 d1
                go_wp2
                go_loopw [15] (fun i wr => ∃ (l : Nat) (Y : List Nat) (Av : Option Addr) (cv : Nat), l ≤ 20 ∧ i = .int .i64 l ∧ Y.length = l2 + l ∧ St Zf [ObA 5 (.slice Av (l2 + l) cv) Y, ObA 5 (.slice A1 l2 e1) d, OwA frF 2 25 (.slice (some ⟨b, 0, none⟩) 2 cx) [⟨k, Y, Av, cv⟩, ⟨k, d, A1, e1⟩], ObA 5 (.slice A2 j x2) P, BlkA w.heap.size 25 #[.int .i64 (k : Int), .slice A l2 c]] w wr) (fun i _ => 20 - (intOf i).toNat)
                case atStart => exact ⟨0, Y, A0, e0, by omega, rfl, HY.out, HST.out⟩
                case round =>
                  obtain ⟨l3, Y3, Av, cv, hll, rfl, hY, hst⟩ := hrel
                  obtain ⟨-, d1, d2, d3⟩ := two_cells hst.bring2
                  simp only [HN.out, hY] at d1 d2 d3
                  obtain ⟨r0, r1⟩ := cells2 hst.bring4
                  have HYL := Lib.hid hY
                  have HS := Lib.hid hst
                  by_cases hlt : l3 < 20
                  · clear hst hY
                    go_wp2_with (at_builtin; refine wpList_append_lit8 _ rfl _ _ 23 rfl 0 5 i0 Tryd.underlying23 hi hz0 hz1 hz2 (.slice Av (l2 + l3) cv) Y3 238 (by rfl) HS.out.ob (by rfl) _ rfl (by decide) (by rw [HYL.out]; omega) (Nat.zero_le _) ?_; intro v9 w9 hown9 hg9 hat9; have h9 := HS.out.grewOb hown9 hg9 hat9 (by simp); obtain ⟨A9, c9, hv9, -, -, -, -⟩ := hown9.form; rw [List.length_append, HYL.out] at hv9; have hv9 : v9 = .slice A9 (l2 + l3 + 1) c9 := hv9; subst hv9; obtain ⟨gb, hgb, ⟨u0, hu0⟩, hfz, h10⟩ := h9.bring2.storeField frF_row rfl (k := 0) (by decide) (j := 1) (by decide) ⟨k, Y3 ++ [238], A9, c9⟩ (.slice A9 (l2 + l3 + 1) c9) (by simp [frF, nthD, HYL.out]); simp only [Option.some.injEq, Addr.mk.injEq, and_true] at hgb; subst hgb; simp only [Nat.zero_mul, Nat.zero_add] at hu0 hfz h10; have H10 := Lib.hid h10; clear hown9 hg9 hat9 h9 h10)
                    go_roundw
                    case rel => exact ⟨l3 + 1, Y3 ++ [238], A9, c9, by omega, by go_num, by rw [List.length_append, HYL.out]; rfl, H10.out.back2⟩
                    case measure => simp [intOf]; omega
                  · obtain rfl : l3 = 20 := by omega
                    clear hst hY hlt hll
                    go_wp2
                    -- LAST
                    have hsf := refSame_any (k : Int) (k : Int) A1 A e1 c _ _ d d wr.drew HS.out.drew.swap.obR.2.2.2 (Nat.le_refl _) (HR.out.below' HS.out.drew.bel (Nat.le_refl _)) HS.out.drew.size HLm.out HLm.out
                    simp only [fragg, and_self, decide_true, HN.out] at hsf
                    have HSF := Lib.hid hsf
                    clear hsf
                    refine wp_region_held_drew (S := (fun w' => w'.cell? ⟨b, 2, none⟩ = some (.int .i64 (k : Int)) ∧ w'.cell? ⟨b, 3, none⟩ = some (.slice A1 l2 e1) ∧ w'.cell? ⟨w.heap.size, 0, none⟩ = some (.int .i64 (k : Int)) ∧ w'.cell? ⟨w.heap.size, 1, none⟩ = some (.slice A l2 c))) (by kernel_rfl) (by (try dsimp only); first | with_reducible exact ⟨m2, m3, m0, m1⟩ | go_keep) (fun hHeld => ?_)
                    refine wpAnyH_take (i := 0) (v := ?_) rfl (by kernel_rfl) (by kernel_rfl) (by kernel_rfl) (fun _ _ _ h => h) (Or.inl ⟨by rfl, ?_⟩) (by assumption) ?_
                    rotate_left
                    · (intro w hSw; (try dsimp only at hSw); go_simp; try with_reducible rfl)
                    try simp only [Act.put, List.getElem_toArray, List.getElem_cons_zero, List.getElem_cons_succ, List.setIfInBounds_toArray, List.set_cons_zero, List.set_cons_succ]
                    refine wpAnyH_take (i := 1) (v := ?_) rfl (by kernel_rfl) (by kernel_rfl) (by kernel_rfl) (fun _ _ _ h => h) (Or.inl ⟨by rfl, ?_⟩) (by assumption) ?_
                    rotate_left
                    · (intro w hSw; (try dsimp only at hSw); go_simp; try with_reducible rfl)
                    try simp only [Act.put, List.getElem_toArray, List.getElem_cons_zero, List.getElem_cons_succ, List.setIfInBounds_toArray, List.set_cons_zero, List.set_cons_succ]
                    refine wpAnyH_take (i := 2) (v := ?_) rfl (by kernel_rfl) (by kernel_rfl) (by kernel_rfl) (fun _ _ _ h => h) (Or.inl ⟨by rfl, ?_⟩) (by assumption) ?_
                    rotate_left
                    · (intro w hSw; (try dsimp only at hSw); go_simp; try with_reducible rfl)
                    try simp only [Act.put, List.getElem_toArray, List.getElem_cons_zero, List.getElem_cons_succ, List.setIfInBounds_toArray, List.set_cons_zero, List.set_cons_succ]
                    refine wpAnyH_take (i := 3) (v := ?_) rfl (by kernel_rfl) (by kernel_rfl) (by kernel_rfl) (fun _ _ _ h => h) (Or.inl ⟨by rfl, ?_⟩) (by assumption) ?_
                    rotate_left
                    · (intro w hSw; (try dsimp only at hSw); go_simp; try with_reducible rfl)
                    try simp only [Act.put, List.getElem_toArray, List.getElem_cons_zero, List.getElem_cons_succ, List.setIfInBounds_toArray, List.set_cons_zero, List.set_cons_succ]
                    refine wpAnyH_ready (rs := [4]) (by kernel_rfl) (by simp) ?_
                    refine AllReadyH.cons rfl (fun K hK => ?_) AllReadyH.nil
                    go_simp
                    go_at_call 16
                    refine HSF.out.mono ?_
                    rintro e w20 ⟨rfl, hb20⟩
                    have h20 := HS.out.drew.below hb20
                    obtain ⟨-, -, m2, m3⟩ := two_cells h20.bring2
                    obtain ⟨m0, m1⟩ := cells2 h20.bring4
                    simp only [HN.out] at m2 m3
                    have HE := Lib.hid h20.bel
                    clear h20 hb20
                    refine hK.out _ _ (by (try dsimp only); first | with_reducible exact ⟨m2, m3, m0, m1⟩ | go_keep) (fun hHeld => ?_)
                    clear hK K
                    try simp only [Act.put, List.getElem_toArray, List.getElem_cons_zero, List.getElem_cons_succ, List.setIfInBounds_toArray, List.set_cons_zero, List.set_cons_succ]
                    refine wpAnyH_take (i := 5) (v := ?_) rfl (by kernel_rfl) (by kernel_rfl) (by kernel_rfl) (fun _ _ _ h => h) (Or.inl ⟨by rfl, ?_⟩) (by assumption) ?_
                    rotate_left
                    · (intro w hSw; (try dsimp only at hSw); go_simp; try with_reducible rfl)
                    try simp only [Act.put, List.getElem_toArray, List.getElem_cons_zero, List.getElem_cons_succ, List.setIfInBounds_toArray, List.set_cons_zero, List.set_cons_succ]
                    refine wpAnyH_done (by kernel_rfl) ?_ _
                    go_wp2
                    go_ret
                    exact ⟨rfl, HE.out⟩
                    -- END
      · have HE := Lib.hid H10.out.bel
        have he' : ¬ packErr t d = 0 := he
        generalize packErr t d = pe at *
        clear H10
        go_wp2_with fail
        go_ret
        exact ⟨rfl, HE.out⟩

/-! ### THE ROW's STEP -/
theorem own : ownKnob Tryd.prog.godebug = none := by kernel_rfl
theorem laidOut : laidOutB Tryd.prog = true := by kernel_rfl
theorem gTab0 : Tryd.prog.globalNamed "satchel/crc.nibbles" = some 0 := by kernel_rfl
theorem gTabType0 : (Tryd.prog.globals[0]?).map (·.type) = some 87 := by kernel_rfl
theorem cellsTab0 : Tryd.prog.cellsOf 87 = 16 := by kernel_rfl
theorem cellsElem0 : Tryd.prog.cellsOf 66 = 1 := by kernel_rfl
theorem table0 {W : World} (h : laidMetH Tryd.prog Rows.frameOwnRow.laid W) : Lib.TabIs Tryd.prog W "satchel/crc.nibbles" .u32 [0, 498536548, 997073096, 651767980, 1994146192, 1802195444, 1303535960, 1342533948, 3988292384, 4027552580, 3604390888, 3412177804, 2607071920, 2262029012, 2685067896, 3183342108] :=
  Lib.tabIs_of_head gTab0 gTabType0 Tryd.underlying87 Tryd.underlying66 cellsElem0 cellsTab0 h

set_option maxRecDepth 100000 in
theorem contract (H : Type) (enc : TypeId × Value → H) (W : World) (base : Nat) (args : Array Value) (ds gs : List (DataW H)) (before : List MemPlace)
    (hval0 : ∀ (j : Nat) t v, Tryd.f10.params[j]? = some t → args[j]? = some v → Value.okWide Tryd.prog W .any base t v)
    (hW : DataW.Whole enc Tryd.prog Tryd.f10.params.toList Rows.frameOwnSpec.vars false W args.toList ds gs before)
    (hsz : (DataW.weightsEach Tryd.prog (Tryd.f10.params.toList ++ (OpenSpec.ofChange Rows.frameOwnSpec).bare.plain.varTypes Tryd.prog) (ds ++ gs)).all (· ≤ reachBytes) = true) (hL : laidMetH Tryd.prog Rows.frameOwnRow.laid W) :
    Calls Tryd.prog 10 args W fun e W' => ∃ v, e = .returned v ∧ Rows.frameOwnSpec.post enc Tryd.prog Tryd.f10 false true false false W args v W' := by
  have hval : ∀ (j : Nat) t v, Tryd.f10.params[j]? = some t → args[j]? = some v → Value.okWide Tryd.prog W .any base t v := hval0
  have hW' := hW
  obtain ⟨p, q, hA0, hV, rfl, hfz, hnd⟩ := hW
  have hA : DataW.TrodAll enc Tryd.prog W 0 (fun _ => true) true Tryd.f10.params.toList args.toList ds p := hA0
  rw [Tryd.params10] at hA hval
  obtain ⟨v0, vs0, d0, ds0, p0, q0, hargs, rfl, rfl, h0, r0⟩ := trodAll_cons hA
  obtain ⟨rfl, rfl, rfl⟩ := trodAll_nil r0
  obtain rfl : args = #[v0] := by cases args; simp_all
  obtain ⟨rfl, rfl⟩ := trodVars_none hV
  have k0 := h0
  have lt0 : ∀ x ∈ p0, x.block < W.heap.size := by obtain ⟨m, hm⟩ := k0; exact DataW.trod_lt m _ _ _ hm
  have w0 := reach_at hsz (j := 0) rfl rfl
  clear hA0 hval0 hsz
  have hT := tabW_of fun i hi => (table0 hL).cell gTab0 i hi
  obtain ⟨t0, A0, c0, d0, rfl, hx0⟩ := open_frame (hval 0 _ v0 rfl rfl) w0 h0 lt0
  refine (walk W hT hx0).mono fun e W' ⟨he, bel⟩ => ?_
  subst he
  exact ⟨_, rfl, _, _, _, [], _, [], hW', trodAll_mk1 (shut_bool Tryd.underlying4 _), (trodAll_cons_mk (Below.trod laidOut (by kernel_rfl) (of_decide_eq_true (by kernel_rfl)) k0 bel lt0) trodAll_mk0), rfl, bel.frame _, fun h => by cases h⟩

/-- a world for the witness: the settled one, the tables holding what their initialisers lay -/
noncomputable def laidWorld (os : Os) : World :=
  { World.holding Tryd.prog os ⟨#[], #[], []⟩ with heap := ((World.holding Tryd.prog os ⟨#[], #[], []⟩).heap.modify 0 (fun | .cells _ t frozen => .cells #[.int .u32 0, .int .u32 498536548, .int .u32 997073096, .int .u32 651767980, .int .u32 1994146192, .int .u32 1802195444, .int .u32 1303535960, .int .u32 1342533948, .int .u32 3988292384, .int .u32 4027552580, .int .u32 3604390888, .int .u32 3412177804, .int .u32 2607071920, .int .u32 2262029012, .int .u32 2685067896, .int .u32 3183342108] t frozen | o => o)) }
theorem laid_met (os : Os) : laidMet Tryd.prog Rows.frameOwnRow.laid ((laidWorld os).forCall (fun _ _ => 0) ⟨#[], #[.agg #[.int .i64 0, .slice none 0 0]], []⟩).memory :=
  laidMet_of_run' 8 (by kernel_rfl) (by kernel_rfl)
theorem reads (os : Os) {H : Type} (enc : TypeId × Value → H) : ∃ places, DataW.whole enc Tryd.prog ((laidWorld os).forCall (fun _ _ => 0) ⟨#[], #[.agg #[.int .i64 0, .slice none 0 0]], []⟩).memory Tryd.f10.params.toList Rows.frameOwnSpec.vars false (#[.agg #[.int .i64 0, .slice none 0 0]] : Array Value).toList 8 = some ([.agg [.lit (.int .i64 0), .nil]], [], places) :=
  ⟨[], by kernel_rfl⟩

set_option maxRecDepth 100000 in
theorem lifted (os : Os) (started : os.Started) (H : Type) (enc : TypeId × Value → H) (F : Stop.Interp) :
    ReturnsInHanded {} Tryd.checked os 10 .any ((OpenSpec.ofChange Rows.frameOwnSpec).preRow enc Tryd.prog Tryd.f10 Rows.frameOwnRow.domain false Rows.frameOwnRow.laid) (((OpenSpec.ofChange Rows.frameOwnSpec).at F).post enc Tryd.prog Tryd.f10 false true false false) := by
  obtain ⟨places, hx⟩ := reads os enc
  refine returnsInHanded_of_row (C := Tryd.checked) (s := (OpenSpec.ofChange Rows.frameOwnSpec)) own started (by kernel_rfl) Tryd.func10
    (witness_row_at (enc := enc) (C := Tryd.checked) false (laidWorld os) #[.agg #[.int .i64 0, .slice none 0 0]] rfl (by kernel_rfl) (by kernel_rfl) (by kernel_rfl)
      (OpenSpec.preRow_of_cond 8 hx (by kernel_rfl) (fun k hk => by cases hk) (by kernel_rfl) (laid_met os))) ?_
  intro W base args ds gs before hval hW _ hcond hsz hL _ _
  exact contract H enc W base args ds gs before hval hW hsz hL

theorem said : Rows.FrameOwnSaid :=
  OpenClaim.holds_of_cond 10 Tryd.f10 rfl rfl rfl rfl rfl rfl rfl ⟨rfl, rfl, rfl, rfl, rfl⟩ rfl rfl rfl rfl rfl (by kernel_rfl) Tryd.func10 (by kernel_rfl)
    (of_decide_eq_true (by kernel_rfl)) (by unfold Func.isWrapper; rw [if_neg (of_decide_eq_false (by kernel_rfl))]; exact ⟨rfl, rfl⟩)
    (fun os started H enc _ F => by rw [OpenClaim.pre_eq_preRow]; exact lifted os started H enc F)

theorem noStandIn : ∀ t ∈ ([25] : List TypeId), Tryd.prog.wantsStandIn t = false := by
  intro t ht
  simp only [List.mem_cons, List.not_mem_nil, or_false] at ht
  rcases ht with rfl
  · exact (show Tryd.prog.wantsStandIn 25 = false by kernel_rfl)
theorem plain (f : FuncId) (fn : Func) (hf : Tryd.pinned.checked.prog.funcNamed "satchel/satchellaw19.FrameOwn" = some f) (hfn : Tryd.pinned.checked.prog.funcs[f]? = some fn) :
    false = Tryd.pinned.checked.prog.looks [] ∧ ∀ (j : Nat) t, fn.params[j]? = some t → Tryd.pinned.checked.prog.wantsStandIn t = false := by
  obtain rfl : f = 10 := Option.some.inj ((show Tryd.prog.funcNamed "satchel/satchellaw19.FrameOwn" = some 10 by kernel_rfl).symm.trans hf) |>.symm
  obtain rfl : fn = Tryd.f10 := (Option.some.inj (Tryd.func10.symm.trans hfn)).symm
  refine ⟨by kernel_rfl, fun j t ht => ?_⟩
  rw [Tryd.params10] at ht
  exact noStandIn t (by simpa using Array.mem_of_getElem? ht)

/-- THE CARD -/
theorem proved : Rows.FrameOwnCardSaid :=
  Claim7.holds_tied_plain_at .later [] _ _ _ _ said (fun _ h => by cases h) (by kernel_rfl) (fun _ h => by cases h) frameOwn_row_tie rfl ⟨rfl, rfl⟩ (by kernel_rfl) rfl plain (by kernel_rfl)
end Go.Proofs.YtkdlehekignnhaaDoor.frameOwn
