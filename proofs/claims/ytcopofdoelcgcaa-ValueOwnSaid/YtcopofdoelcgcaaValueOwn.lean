/- For every value: what Encode and Decode give is new memory each time: writing one answer over, growing it, or writing over what was handed in, is seen by no other answer. -/
import Derived.Test.YtcopofdoelcgcaaOpen
import Derived.Test.YtcopofdoelcgcaaRows
import Derived.Test.YtcopofdoelcgcaaValLaw
import Derived.Test.YtcopofdoelcgcaaValSpeak
import Derived.Test.YtcopofdoelcgcaaValEnc4
import Derived.Test.YtcopofdoelcgcaaValSame3
import Derived.Deep.RegionHeld3
import Derived.Deep.Cut
import Derived.Test.YtcopofdoelcgcaaValOwn
namespace Go.Proofs.Ytcopofdoelcgcaa.valueOwn
open Go.ChangeShapes Go.WideShapes Go.ChangeAt Go.RowKit
open Go.ChangeMaps (open_string shut_string)
set_option linter.unusedVariables false

set_option maxRecDepth 100000 in
set_option maxHeartbeats 8000000 in
theorem walk (w : World) {v : Vv} {A : Option Addr} {c : Nat} {A' : Option Addr} {c' : Nat} (hx : VR w w.heap.size v (vagg v A c A' c')) :
    Calls Try.prog 12 #[vagg v A c A' c'] w fun e w' => e = .returned (.bool true) ∧ Below w.heap.size w w' := by
  obtain ⟨i0, hi, hz0, hz1, hz2⟩ := info_parts u8_info
  obtain ⟨i1, hi1, hy0, hy1, hy2⟩ := info_parts i64_info
  obtain ⟨i2, hi2, hx0, hx1, hx2⟩ := info_parts str_info
  have hok := hx.ok
  have HRE := Lib.hid fun w' h1 h2 => refEncode_any v (vagg v A c A' c') w.heap.size w' h1 h2
  have HCP := Lib.hid fun w' h1 h2 => refCopy_any v (vagg v A c A' c') w.heap.size w' h1 h2
  have HRC := Lib.hid fun w' h1 h2 => refCheck_any v (vagg v A c A' c') w.heap.size w' h1 h2
  have HEN := Lib.hid fun w' y B' h1 h2 => Encode_any v y B' w' h1 h2
  have HRS := Lib.hid fun w' y B' h1 h2 h3 => refSame_any v v y (vagg v A c A' c') B' w' h1 h2 h3
  rw [sameV_self] at HRS
  unfold EncPost at HEN
  have hXl : (encV v).length ≤ 40402 := by
    by_cases h : chk v = 0
    · rw [encV_ok h]; exact encB_le ((right_iff v).1 h)
    · rw [encV_no h]; simp
  have HX0 : Hid (chk v ≠ 0 → (encV v).length = 0) := Lib.hid fun h => by rw [encV_no h]; rfl
  have HVV : Hid (chk v = 0 → decV (encV v) = v) := Lib.hid fun h => by rw [encV_ok h]; exact (dec_there ((right_iff v).1 h) hok).2
  have HVK : Hid (IsBytes (encV v) → Vok (decV (encV v))) := Lib.hid fun h => dec_vok h
  have HD := Lib.hid fun A' c' B' w' h1 h2 h3 h4 => Decode_any A' c' B' (encV v) w' h1 h2 h3 h4
  unfold DecPost at HD
  have HC := Lib.hid fun A' c' B' w' h1 h2 => clone_any A' c' B' (encV v) w' h1 h2 (by omega)
  obtain ⟨X, hX⟩ : ∃ X, X = encV v := ⟨_, rfl⟩
  rw [← hX] at HRE HEN hXl HX0 HVV HVK HD HC
  obtain ⟨E, hE⟩ : ∃ E, E = chk v := ⟨_, rfl⟩
  rw [← hE] at HRC HEN HX0 HVV
  obtain ⟨E2, hE2⟩ : ∃ E2, E2 = decErr X := ⟨_, rfl⟩
  obtain ⟨V, hV⟩ : ∃ V, V = decV X := ⟨_, rfl⟩
  rw [← hV] at HVV HVK HD
  rw [← hE2] at HD
  obtain ⟨v1, v2, v3, v4, v5⟩ := V
  obtain ⟨k, n, s, ns, ts⟩ := v
  unfold vagg at hx HRE HCP HRC HRS ⊢
  simp only at hx HRE HCP HRC HRS HD ⊢
  have hXm : X.length ≤ maxLen := by unfold maxLen; omega
  clear hX hE hE2 hV hok
  have HXM := Lib.hid hXm
  go_enter Try.func12, Try.ntmps12
  go_wp2_with fail
  obtain ⟨wo, hwo⟩ : ∃ x, x = w.alloc (.cells #[.int .i64 k, .int .i64 n, .string s, .slice A ns.length c, .slice A' ts.length c'] 26) := ⟨_, rfl⟩
  rw [← hwo]
  obtain ⟨Bo, hb0⟩ := boxed hwo
  clear hwo
  refine (vspeaks_any wo).mono ?_
  rintro e w1 ⟨rfl, b1⟩
  have B1 := Bo.below b1 Bo.lt
  have hb1 := hb0.trans (b1.mono hb0.size)
  clear Bo hb0 b1
  obtain ⟨x0, x1, x2, x3, x4⟩ := box_cells B1
  go_wp2_with fail
  refine (HRE.out w1 (hx.below hb1) hb1.size).mono ?_
  rintro e w2 ⟨y, rfl, hy, b2⟩
  obtain ⟨A2, c2, rfl, -, -, r2, -⟩ := hy.form
  have hok2 := HVK.out r2.1
  have B2 := B1.below b2 B1.lt
  have hb2 := hb1.trans (b2.mono hb1.size)
  have hl2 := B2.lt
  clear x0 x1 x2 x3 x4 B1 hb1 b2 hy
  obtain ⟨x0, x1, x2, x3, x4⟩ := box_cells B2
  go_wp2_with fail
  refine (HCP.out w2 (hx.below hb2) hb2.size).mono ?_
  rintro e w3 ⟨y, rfl, ⟨A3, c3, A3', c3', rfl, q3, q3', ok3⟩, b3⟩
  unfold vagg
  simp only
  obtain ⟨w4, hw4⟩ : ∃ x, x = w3.alloc (.cells #[.int .i64 k, .int .i64 n, .string s, .slice A3 ns.length c3, .slice A3' ts.length c3'] 26) := ⟨_, rfl⟩
  obtain ⟨C4, b4⟩ := boxed hw4
  have V4 : VR w4 w3.heap.size ⟨k, n, s, ns, ts⟩ (.agg #[.int .i64 k, .int .i64 n, .string s, .slice A3 ns.length c3, .slice A3' ts.length c3']) := VR.below ⟨A3, c3, A3', c3', rfl, q3, q3', ok3⟩ b4
  have b34 := b3.trans (b4.mono b3.size)
  have B4 := B2.below b34 B2.lt
  have r4 := r2.below b34
  have hb4 := hb2.trans (b34.mono hb2.size)
  have s2 := hb2.size
  have s3 := b3.size
  have s4 := b4.size
  have HW4 := Lib.hid hw4
  clear x0 x1 x2 x3 x4 hw4 B2 b3 b4 q3 q3' ok3 r2 hb2 b34
  go_upto_region 5 with fail
  rw [← HW4.out]
  obtain ⟨y0, y1, y2, y3, y4⟩ := box_cells C4
  go_wp2_with fail
  refine (HEN.out w4 _ _ V4 s4).mono ?_
  rintro e w5 ⟨y, rfl, oa, b5⟩
  obtain ⟨A5, c5, rfl, -, -, -, ha⟩ := oa.form
  have B5 := B4.below b5 B4.lt
  have C5 := C4.below b5 C4.lt
  have V5 := V4.below (b5.mono s4)
  have hb5 := hb4.trans (b5.mono hb4.size)
  have r5 := r4.below (b5.mono (by omega))
  have s5 := b5.size
  have Ha := Lib.hid ha
  clear y0 y1 y2 y3 y4 B4 C4 V4 hb4 b5 r4 ha
  obtain ⟨y0, y1, y2, y3, y4⟩ := box_cells C5
  go_wp2_with fail
  refine (HEN.out w5 _ _ V5 (by omega)).mono ?_
  rintro e w6 ⟨y, rfl, ob, b6⟩
  obtain ⟨A6, c6, rfl, -, -, -, hb⟩ := ob.form
  have B6 := B5.below b6 B5.lt
  have hb6 := hb5.trans (b6.mono hb5.size)
  have r6 := r5.below (b6.mono (by omega))
  have oa6 := oa.below' b6
  have s6 := b6.size
  have Hb := Lib.hid hb
  have hl6 := B6.lt
  clear y0 y1 y2 y3 y4 B5 C5 V5 hb5 b6 r5 oa hb HEN HCP
  go_wp2_with fail
  go_loopw [36] (fun i wr => ∃ (j : Nat) (L : List Nat), j ≤ X.length ∧ i = .int .i64 j ∧ L.length = X.length ∧ OB wr w4.heap.size 5 (.slice A5 X.length c5) L ∧ Only (fun g => (Value.slice A5 X.length c5).ownBlock = some g) w6 wr) (fun i _ => X.length - (intOf i).toNat)
  case atStart => exact ⟨0, X, Nat.zero_le _, rfl, rfl, oa6, Only.refl _ _⟩
  case round =>
    obtain ⟨j, L, hj, rfl, hL, oL, hO⟩ := hrel
    by_cases hlt : j < X.length
    · obtain ⟨g, rfl, ⟨u0, hu0⟩, hfz, oL', hg'⟩ := oL.storeAt hL hlt 238 (by omega)
      have HL := Lib.hid hL
      have HoL := Lib.hid oL'
      have HO := Lib.hid (hO.trans (Only.of_grown hg') (fun i _ e => e))
      clear hL oL oL' hg' hO oa6
      go_wp2
      go_roundw
      case rel => exact ⟨j + 1, L.set j 238, by omega, by go_num, by rw [List.length_set]; exact HL.out, HoL.out, HO.out⟩
      case measure => simp [intOf]; omega
    · obtain rfl : j = X.length := by omega
      obtain ⟨w7, hw7⟩ : ∃ x, x = wr := ⟨_, rfl⟩
      rw [← hw7] at oL hO ⊢
      clear hw7 oa6
      have s7 := hO.size
      have HL := Lib.hid hL
      have hL8 : L.length + 1 ≤ 140737488355328 := by omega
      clear hL
      go_wp2_with (at_builtin; refine wpList_append_byte _ rfl (.tmp 43) (.tmp 44) 33 rfl w4.heap.size 5 i0 Try.underlying33 hi hz0 hz1 hz2 (.slice A5 X.length c5) L (by rfl) (oL.alloc _) ⟨w7.heap.size, 0, none⟩ 1 238 (by rfl) ((Blk.new w7 5 #[.int .u8 238]).cell 0) (by omega) hL8 (by simp; omega) ?_; intro v8 w8 o8 hg8 hat8; obtain ⟨A8, c8, rfl, -, -, -, -⟩ := o8.form)
      have hO8 := hO.trans (Only.of_grown ((World.grownBy_alloc w7 _ _).trans hg8)) (fun i _ e => e)
      have B8 := B6.only hO8 (fun e => by have := (Ha.out _ e).1; omega)
      have r8 := r6.only hO8 (by omega) (fun g hg e => by have := (Ha.out _ e).1; omega)
      have ob8 := ob.only hO8 (fun g hg e => by have := (Hb.out _ hg).1; have := (Ha.out _ e).2; omega)
      have hb8 := hO8.belowTrans hb6 (Nat.le_refl _) (fun g hg e => by have := (Ha.out _ e).1; omega)
      have s8 := hO8.size
      clear hO8 hO hg8 hat8 o8 oL
      obtain ⟨-, rb8, -, -⟩ := ob8.reads
      go_wp2_with fail
      refine (same_yes A6 A2 _ c6 c2 _ _ X w8 rb8 r8 rfl HXM.out).mono ?_
      rintro e w9 ⟨rfl, n9, hw9⟩
      have B9 : Blk w9 w.heap.size 26 #[.int .i64 k, .int .i64 n, .string s, .slice A ns.length c, .slice A' ts.length c'] := by subst hw9; exact B8.drewN n9
      have r9 : RB w9 w2.heap.size A2 X := by subst hw9; exact r8.drewN n9
      have hb9 : Below w.heap.size w w9 := by subst hw9; exact below_drewN hb8 n9
      have s9 : w8.heap.size ≤ w9.heap.size := by subst hw9; exact Nat.le_refl _
      clear hw9 B8 r8 hb8 ob8 rb8 B6 hb6 r6 ob
      go_wp2_with fail
      refine (HC.out A2 c2 _ w9 r9 (by omega)).mono ?_
      rintro e w10 ⟨y, rfl, oc, b10⟩
      obtain ⟨A10, c10, rfl, hc10, hm10, r10, hcl⟩ := oc.form
      have B10 := B9.below b10 B9.lt
      have hb10 := hb9.trans (b10.mono hb9.size)
      have Hc := Lib.hid hcl
      have s10 := b10.size
      clear B9 r9 hb9 b10 hcl
      go_wp2_with fail
      refine (HD.out A10 c10 _ w10 r10 (Nat.le_refl _) hc10 hm10).mono ?_
      rintro e w11 ⟨A11, c11, A12, c12, rfl, o11, o12, b11⟩
      obtain ⟨w12, hw12⟩ : ∃ x, x = w11.alloc (.cells #[.int .i64 v1, .int .i64 v2, .string v3, .slice A11 v4.length c11, .slice A12 v5.length c12] 26) := ⟨_, rfl⟩
      obtain ⟨X12, b12⟩ := boxed hw12
      have b1012 := b11.trans (b12.mono b11.size)
      have B12 := B10.below b1012 B10.lt
      have hb12 := hb10.trans (b1012.mono hb10.size)
      have r12 := r10.below b1012
      have oc12 := oc.below' b1012
      have xn12 := o11.below' b12
      have xt12 := o12.below' b12
      obtain ⟨_, _, hv11, -, -, -, hn11⟩ := o11.form
      obtain ⟨_, _, hv12, -, -, -, hn12⟩ := o12.form
      have Hn := Lib.hid hn11
      have Ht := Lib.hid hn12
      have s11 := b11.size
      have hl12 := X12.lt
      have s12 := b12.size
      have HW12 := Lib.hid hw12
      clear hw12 B10 hb10 r10 b1012 oc o11 o12 hv11 hv12 hn11 hn12 b11 b12
      go_upto_region 17 with fail
      rw [← HW12.out]
      go_wp2_with fail
      refine (HD.out A10 c10 _ w12 r12 (by omega) hc10 hm10).mono ?_
      rintro e w13 ⟨A13, c13, A14, c14, rfl, o13, o14, b13⟩
      obtain ⟨w14, hw14⟩ : ∃ x, x = w13.alloc (.cells #[.int .i64 v1, .int .i64 v2, .string v3, .slice A13 v4.length c13, .slice A14 v5.length c14] 26) := ⟨_, rfl⟩
      obtain ⟨Y14, b14⟩ := boxed hw14
      have b1214 := b13.trans (b14.mono b13.size)
      have B14 := B12.below b1214 B12.lt
      have X14 := X12.below b1214 X12.lt
      have hb14 := hb12.trans (b1214.mono hb12.size)
      have oc14 := oc12.below' b1214
      have xn14 := xn12.below' b1214
      have xt14 := xt12.below' b1214
      have yn14 := o13.below' b14
      have yt14 := o14.below' b14
      obtain ⟨_, _, hv11, -, -, -, hn11⟩ := o13.form
      obtain ⟨_, _, hv12, -, -, -, hn12⟩ := o14.form
      have Hyn := Lib.hid hn11
      have Hyt := Lib.hid hn12
      have s13 := b13.size
      have hl14 := Y14.lt
      have s14 := b14.size
      have HW14 := Lib.hid hw14
      clear hw14 B12 X12 hb12 r12 b1214 oc12 xn12 xt12 o13 o14 hv11 hv12 hn11 hn12 b13 b14 HD HC hc10 hm10
      go_upto_region 18 with fail
      rw [← HW14.out]
      go_wp2_with fail
      go_loopw [64] (fun i wr => ∃ (j : Nat) (L : List Nat), j ≤ X.length ∧ i = .int .i64 j ∧ L.length = X.length ∧ OB wr w9.heap.size 5 (.slice A10 X.length c10) L ∧ Only (fun g => (Value.slice A10 X.length c10).ownBlock = some g) w14 wr) (fun i _ => X.length - (intOf i).toNat)
      case atStart => exact ⟨0, X, Nat.zero_le _, rfl, rfl, oc14, Only.refl _ _⟩
      case round =>
        obtain ⟨j, L, hj, rfl, hL, oL, hO⟩ := hrel
        by_cases hlt : j < X.length
        · obtain ⟨g, rfl, ⟨u0, hu0⟩, hfz, oL', hg'⟩ := oL.storeAt hL hlt 238 (by omega)
          have HL := Lib.hid hL
          have HoL := Lib.hid oL'
          have HO := Lib.hid (hO.trans (Only.of_grown hg') (fun i _ e => e))
          clear hL oL oL' hg' hO oc14
          go_wp2
          go_roundw
          case rel => exact ⟨j + 1, L.set j 238, by omega, by go_num, by rw [List.length_set]; exact HL.out, HoL.out, HO.out⟩
          case measure => simp [intOf]; omega
        · obtain rfl : j = X.length := by omega
          obtain ⟨w15, hw15⟩ : ∃ x, x = wr := ⟨_, rfl⟩
          rw [← hw15] at oL hO ⊢
          have s15 := hO.size
          have B15 := B14.only hO (fun e => by have := (Hc.out _ e).1; omega)
          have X15 := X14.only hO (fun e => by have := (Hc.out _ e).2; omega)
          have Y15 := Y14.only hO (fun e => by have := (Hc.out _ e).2; omega)
          have xn15 := xn14.only hO (fun g hg e => by have := (Hn.out _ hg).1; have := (Hc.out _ e).2; omega)
          have xt15 := xt14.only hO (fun g hg e => by have := (Ht.out _ hg).1; have := (Hc.out _ e).2; omega)
          have yn15 := yn14.only hO (fun g hg e => by have := (Hyn.out _ hg).1; have := (Hc.out _ e).2; omega)
          have yt15 := yt14.only hO (fun g hg e => by have := (Hyt.out _ hg).1; have := (Hc.out _ e).2; omega)
          have hb15 := hO.belowTrans hb14 (Nat.le_refl _) (fun g hg e => by have := (Hc.out _ e).1; omega)
          clear hw15 oc14 hL oL hO B14 X14 Y14 xn14 xt14 yn14 yt14 hb14
          obtain ⟨x0, x1, x2, x3, x4⟩ := box_cells B15
          go_wp2_with fail
          refine (HRC.out w15 (hx.below hb15) hb15.size).mono ?_
          rintro e w16 ⟨rfl, b16⟩
          have hb16 := hb15.trans (b16.mono hb15.size)
          by_cases h0 : E = 0
          case neg =>
            have hne : (E != 0) = true := by simpa using h0
            have hX0 := HX0.out h0
            have hX1 : ((X.length : Int) == 0) = true := by rw [hX0]; rfl
            clear hX0 h0
            go_wp2
            go_ret
            exact ⟨rfl, hb16⟩
          have hVV := HVV.out h0
          subst h0
          simp only [Vv.mk.injEq] at hVV
          obtain ⟨rfl, rfl, rfl, rfl, rfl⟩ := hVV
          have B16 := B15.below b16 B15.lt
          have X16 := X15.below b16 X15.lt
          have Y16 := Y15.below b16 Y15.lt
          have xn16 := xn15.below' b16
          have xt16 := xt15.below' b16
          have yn16 := yn15.below' b16
          have yt16 := yt15.below' b16
          have s16 := b16.size
          have hk8 : v4.length * 8 ≤ 140737488351232 := hok2.ns2
          have hk16 : v5.length * 16 ≤ 140737488351232 := hok2.ts2
          clear x0 x1 x2 x3 x4 B15 X15 Y15 xn15 xt15 yn15 yt15 hb15 b16
          obtain ⟨x0, x1, x2, x3, x4⟩ := box_cells X16
          go_wp2_with fail
          go_loopw [80] (fun i wr => ∃ (j : Nat) (L : List Int), j ≤ v4.length ∧ i = .int .i64 j ∧ L.length = v4.length ∧ OL ivl wr w10.heap.size 2 (.slice A11 v4.length c11) L ∧ Only (fun g => (Value.slice A11 v4.length c11).ownBlock = some g) w16 wr) (fun i _ => v4.length - (intOf i).toNat)
          case atStart => exact ⟨0, v4, Nat.zero_le _, rfl, rfl, xn16, Only.refl _ _⟩
          case round =>
            clear x0 x1 x2 x3 x4
            obtain ⟨j, L, hj, rfl, hL, oL, hO⟩ := hrel
            have X17 := X16.only hO (fun e => by have := (Hn.out _ e).2; omega)
            obtain ⟨x0, x1, x2, x3, x4⟩ := box_cells X17
            by_cases hlt : j < v4.length
            · obtain ⟨g, rfl, ⟨u0, hu0⟩, hfz, oL', hg'⟩ := oL.storeAt hL hlt (-9) (ivl_ok _)
              have HL := Lib.hid hL
              have HoL := Lib.hid oL'
              have HO := Lib.hid (hO.trans (Only.of_grown hg') (fun i _ e => e))
              clear hL oL oL' hg' hO xn16
              go_wp2
              go_roundw
              case rel => exact ⟨j + 1, L.set j (-9), by omega, by go_num, by rw [List.length_set]; exact HL.out, HoL.out, HO.out⟩
              case measure => simp [intOf]; omega
            · obtain rfl : j = v4.length := by omega
              obtain ⟨w17, hw17⟩ : ∃ x, x = wr := ⟨_, rfl⟩
              rw [← hw17] at oL hO X17 x0 x1 x2 x3 x4 ⊢
              have s17 := hO.size
              have hby : (L.length + 3) * 8 ≤ 140737488355328 := by omega
              have nx := own_blk_ne oL.2 X17 (by decide)
              have hs17 : w10.heap.size ≤ w17.heap.size := by omega
              have HL := Lib.hid hL
              clear hw17 hL
              go_upto_region 31 with (at_builtin; refine wpList_append_three (f := ivl) _ rfl (.tmp 89) (.tmp 90) 23 rfl w10.heap.size 2 i1 _ 8 Try.underlying23 hi1 hy0 hy1 hy2 rfl (.slice A11 v4.length c11) L (by rfl) oL (-9) (ivl_ok _) (by rfl) hby (by omega) hs17 ?_; intro v18 w18 o18 hg18; obtain ⟨M3, hM3⟩ : ∃ M, M = L ++ [-9, -9, -9] := ⟨_, rfl⟩; rw [← hM3] at o18; clear hM3; have X18 := Blk.grown X17 hg18 (Ne.symm nx); obtain ⟨x0, x1, x2, x3, x4⟩ := box_cells X18; have f3 := X18.frozen 3; obtain ⟨A18, c18, rfl, -, -, -, -⟩ := o18.form)
              have hO18 := hO.trans (Only.of_grown hg18) (fun i _ e => e)
              obtain ⟨w19, hw19⟩ : ∃ x, x = w18.setCell ⟨w11.heap.size, 3, none⟩ (.slice A18 M3.length c18) := ⟨_, rfl⟩
              have hO19 : Only (fun g => (Value.slice A11 v4.length c11).ownBlock = some g ∨ g = w11.heap.size) w16 w19 := by
                rw [hw19]
                exact (hO18.mono fun i _ h => .inl h).setCell (.inl (.inr rfl)) _
              have X19 : Blk w19 w11.heap.size 26 #[.int .i64 v1, .int .i64 v2, .string v3, .slice A18 M3.length c18, .slice A12 v5.length c12] := by
                rw [hw19]
                have := X18.set_ 3 (.slice A18 M3.length c18)
                simpa using this
              have B19 := B16.only hO19 (fun e => e.elim (fun e => by have := (Hn.out _ e).1; omega) (fun e => by omega))
              have Y19 := Y16.only hO19 (fun e => e.elim (fun e => by have := (Hn.out _ e).2; omega) (fun e => by omega))
              have xt19 := xt16.only hO19 (fun g hg e => e.elim (fun e => own_two_ne xt16.2 xn16.2 (by decide) g hg e) (fun e => by have := (Ht.out _ hg).2; omega))
              have yn19 := yn16.only hO19 (fun g hg e => e.elim (fun e => by have := (Hn.out _ e).2; have := (Hyn.out _ hg).1; omega) (fun e => by have := (Hyn.out _ hg).1; omega))
              have yt19 := yt16.only hO19 (fun g hg e => e.elim (fun e => by have := (Hn.out _ e).2; have := (Hyt.out _ hg).1; omega) (fun e => by have := (Hyt.out _ hg).1; omega))
              have hb19 := hO19.belowTrans hb16 (Nat.le_refl _) (fun g hg e => e.elim (fun e => by have := (Hn.out _ e).1; omega) (fun e => by omega))
              have s19 := hO19.size
              have HW19 := Lib.hid hw19
              clear hO18 hO19 hO hg18 o18 oL X18 X17 hw19 B16 X16 Y16 xn16 xt16 yn16 yt16 hb16 nx f3
              rw [← HW19.out]
              clear x0 x1 x2 x3 x4
              obtain ⟨x0, x1, x2, x3, x4⟩ := box_cells X19
              go_wp2_with fail
              go_loopw [96] (fun i wr => ∃ (j : Nat) (L : List ByteArray), j ≤ v5.length ∧ i = .int .i64 j ∧ L.length = v5.length ∧ OL svl wr w10.heap.size 9 (.slice A12 v5.length c12) L ∧ Only (fun g => (Value.slice A12 v5.length c12).ownBlock = some g) w19 wr) (fun i _ => v5.length - (intOf i).toNat)
              case atStart => exact ⟨0, v5, Nat.zero_le _, rfl, rfl, xt19, Only.refl _ _⟩
              case round =>
                clear x0 x1 x2 x3 x4
                obtain ⟨j, L, hj, rfl, hL, oL, hO⟩ := hrel
                have X20 := X19.only hO (fun e => by have := (Ht.out _ e).2; omega)
                obtain ⟨x0, x1, x2, x3, x4⟩ := box_cells X20
                by_cases hlt : j < v5.length
                · obtain ⟨g, rfl, ⟨u0, hu0⟩, hfz, oL', hg'⟩ := oL.storeAt hL hlt ⟨#[42]⟩ (svl_ok _)
                  have HL := Lib.hid hL
                  have HoL := Lib.hid oL'
                  have HO := Lib.hid (hO.trans (Only.of_grown hg') (fun i _ e => e))
                  clear hL oL oL' hg' hO xt19
                  go_wp2
                  go_roundw
                  case rel => exact ⟨j + 1, L.set j ⟨#[42]⟩, by omega, by go_num, by rw [List.length_set]; exact HL.out, HoL.out, HO.out⟩
                  case measure => simp [intOf]; omega
                · obtain rfl : j = v5.length := by omega
                  obtain ⟨w20, hw20⟩ : ∃ x, x = wr := ⟨_, rfl⟩
                  rw [← hw20] at oL hO X20 x0 x1 x2 x3 x4 ⊢
                  have s20 := hO.size
                  have hby : (L.length + 3) * 16 ≤ 140737488355328 := by omega
                  have nx := own_blk_ne oL.2 X20 (by decide)
                  have hs20 : w10.heap.size ≤ w20.heap.size := by omega
                  have HL := Lib.hid hL
                  clear hw20 hL
                  go_upto_region 37 with (at_builtin; refine wpList_append_three (f := svl) _ rfl (.tmp 105) (.tmp 106) 24 rfl w10.heap.size 9 i2 _ 16 Try.underlying24 hi2 hx0 hx1 hx2 rfl (.slice A12 v5.length c12) L (by rfl) oL ⟨#[42]⟩ (svl_ok _) (by rfl) hby (by omega) hs20 ?_; intro v21 w21 o21 hg21; obtain ⟨M4, hM4⟩ : ∃ M, M = L ++ [⟨#[42]⟩, ⟨#[42]⟩, ⟨#[42]⟩] := ⟨_, rfl⟩; rw [← hM4] at o21; clear hM4; have X21 := Blk.grown X20 hg21 (Ne.symm nx); obtain ⟨x0, x1, x2, x3, x4⟩ := box_cells X21; have f4 := X21.frozen 4; obtain ⟨A21, c21, rfl, -, -, -, -⟩ := o21.form)
                  have hO21 := hO.trans (Only.of_grown hg21) (fun i _ e => e)
                  obtain ⟨w22, hw22⟩ : ∃ x, x = w21.setCell ⟨w11.heap.size, 4, none⟩ (.slice A21 M4.length c21) := ⟨_, rfl⟩
                  have hO22 : Only (fun g => (Value.slice A12 v5.length c12).ownBlock = some g ∨ g = w11.heap.size) w19 w22 := by
                    rw [hw22]
                    exact (hO21.mono fun i _ h => .inl h).setCell (.inl (.inr rfl)) _
                  have B22 := B19.only hO22 (fun e => e.elim (fun e => by have := (Ht.out _ e).1; omega) (fun e => by omega))
                  have Y22 := Y19.only hO22 (fun e => e.elim (fun e => by have := (Ht.out _ e).2; omega) (fun e => by omega))
                  have yn22 := yn19.only hO22 (fun g hg e => e.elim (fun e => by have := (Ht.out _ e).2; have := (Hyn.out _ hg).1; omega) (fun e => by have := (Hyn.out _ hg).1; omega))
                  have yt22 := yt19.only hO22 (fun g hg e => e.elim (fun e => by have := (Ht.out _ e).2; have := (Hyt.out _ hg).1; omega) (fun e => by have := (Hyt.out _ hg).1; omega))
                  have hb22 := hO22.belowTrans hb19 (Nat.le_refl _) (fun g hg e => e.elim (fun e => by have := (Ht.out _ e).1; omega) (fun e => by omega))
                  have U22 := vr_of (v := ⟨v1, v2, v3, v4, v5⟩) yn22 yt22 hok2 (Nat.le_refl _)
                  have HW22 := Lib.hid hw22
                  clear hO21 hO22 hO hg21 o21 oL X21 X20 hw22 B19 X19 Y19 xt19 yn19 yt19 hb19 nx yn22 yt22
                  rw [← HW22.out]
                  clear x0 x1 x2 x3 x4 f4
                  obtain ⟨x0, x1, x2, x3, x4⟩ := box_cells B22
                  obtain ⟨y0, y1, y2, y3, y4⟩ := box_cells Y22
                  go_wp2_with fail
                  refine (HRS.out w22 _ _ U22 ((hx.below hb22).more hb22.size) (Nat.le_refl _)).mono ?_
                  rintro e w23 ⟨rfl, b23⟩
                  go_wp2
                  go_ret
                  exact ⟨rfl, hb22.trans (b23.mono hb22.size)⟩

/-! ### THE ROW's STEP -/
theorem own : ownKnob Try.prog.godebug = none := by kernel_rfl
theorem laidOut : laidOutB Try.prog = true := by kernel_rfl

theorem contract (H : Type) (enc : TypeId × Value → H) (W : World) (base : Nat) (args : Array Value) (ds gs : List (DataW H)) (before : List MemPlace)
    (hval0 : ∀ (j : Nat) t v, Try.f12.params[j]? = some t → args[j]? = some v → Value.okWide Try.prog W .any base t v)
    (hW : DataW.Whole enc Try.prog Try.f12.params.toList Rows.valueOwnSpec.vars false W args.toList ds gs before)
    (hsz : (DataW.weightsEach Try.prog (Try.f12.params.toList ++ (OpenSpec.ofChange Rows.valueOwnSpec).bare.plain.varTypes Try.prog) (ds ++ gs)).all (· ≤ reachBytes) = true) :
    Calls Try.prog 12 args W fun e W' => ∃ v, e = .returned v ∧ Rows.valueOwnSpec.post enc Try.prog Try.f12 false true false false W args v W' := by
  have hval : ∀ (j : Nat) t v, Try.f12.params[j]? = some t → args[j]? = some v → Value.okWide Try.prog W .any base t v := hval0
  have hW' := hW
  obtain ⟨p, q, hA0, hV, rfl, hfz, hnd⟩ := hW
  have hA : DataW.TrodAll enc Try.prog W 0 (fun _ => true) true Try.f12.params.toList args.toList ds p := hA0
  rw [Try.params12] at hA hval
  obtain ⟨v0, vs0, d0, ds0, p0, q0, hargs, rfl, rfl, h0, r0⟩ := trodAll_cons hA
  obtain ⟨rfl, rfl, rfl⟩ := trodAll_nil r0
  obtain rfl : args = #[v0] := by cases args; simp_all
  obtain ⟨rfl, rfl⟩ := trodVars_none hV
  have k0 := h0
  have lt0 : ∀ x ∈ p0, x.block < W.heap.size := by obtain ⟨m, hm⟩ := k0; exact DataW.trod_lt m _ _ _ hm
  have w0 := reach_at hsz (j := 0) rfl rfl
  clear hA0 hval0 hsz
  obtain ⟨val0, A0, c0, B0, d0, rfl, hx0⟩ := open_value (hval 0 _ v0 rfl rfl) w0 h0 lt0
  refine (walk W hx0).mono fun e W' ⟨he, bel⟩ => ?_
  subst he
  exact ⟨_, rfl, _, _, _, [], _, [], hW', trodAll_mk1 (shut_bool Try.underlying4 _), (trodAll_cons_mk (Below.trod laidOut (by kernel_rfl) (of_decide_eq_true (by kernel_rfl)) k0 bel lt0) trodAll_mk0), rfl, bel.frame _, fun h => by cases h⟩

set_option maxRecDepth 100000 in
theorem lifted (os : Os) (started : os.Started) (H : Type) (enc : TypeId × Value → H) :
    ReturnsInHanded {} Try.checked os 12 .any (Rows.valueOwnSpec.pre6 enc Try.prog Try.f12 Rows.valueOwnRow.domain false) (Rows.valueOwnSpec.post enc Try.prog Try.f12 false true false false) := by
  refine returnsInHanded_of_change_sized (C := Try.checked) own started (by kernel_rfl) Try.func12
    (ChangeSpec.witness6 (enc := enc) (C := Try.checked) false ⟨#[], #[.agg #[.int .i64 0, .int .i64 0, .string ⟨#[]⟩, .slice none 0 0, .slice none 0 0]], []⟩ 8 (by kernel_rfl) (by kernel_rfl) (by kernel_rfl) (by kernel_rfl)) ?_
  intro W base args ds gs before hval hW _ hsz _
  exact contract H enc W base args ds gs before hval hW hsz

/-- THE STATEMENT -/
theorem proved : Rows.ValueOwnSaid :=
  OpenClaim.holds_of_wide 12 Try.f12 rfl rfl rfl rfl rfl rfl rfl ⟨rfl, rfl, rfl, rfl, rfl⟩ rfl rfl rfl rfl rfl (by kernel_rfl) Try.func12 (by kernel_rfl)
    (of_decide_eq_true (by kernel_rfl)) (by unfold Func.isWrapper; rw [if_neg (of_decide_eq_false (by kernel_rfl))]; exact ⟨rfl, rfl⟩)
    (fun os started H enc _ => lifted os started H enc)
end Go.Proofs.Ytcopofdoelcgcaa.valueOwn
