/- For every value that is right, and any bytes behind: it is encoded without error, decoded again, and told by Prefix with its length, whatever stands behind it. -/
import Derived.Test.YtcopofdoelcgcaaOpen
import Derived.Test.YtcopofdoelcgcaaRows
import Derived.Test.YtcopofdoelcgcaaValLaw
import Derived.Test.YtcopofdoelcgcaaValSpeak
import Derived.Test.YtcopofdoelcgcaaValEnc4
import Derived.Test.YtcopofdoelcgcaaValSame3
import Derived.Deep.RegionHeld3
import Derived.Deep.Cut
namespace Go.Proofs.Ytcopofdoelcgcaa.valueThere
open Go.ChangeShapes Go.WideShapes Go.ChangeAt Go.RowKit
open Go.ChangeMaps (open_string shut_string)
set_option linter.unusedVariables false

set_option maxRecDepth 100000 in
set_option maxHeartbeats 4000000 in
theorem walk (w : World) {v : Vv} {A : Option Addr} {c : Nat} {A' : Option Addr} {c' : Nat} (hx : VR w w.heap.size v (vagg v A c A' c')) {D : Option Addr} {cap : Nat} {bs : List Nat} (r : RB w w.heap.size D bs) (hc : bs.length ≤ cap) (hm : cap ≤ 140737488351232) :
    Calls Try.prog 9 #[vagg v A c A' c', .slice D bs.length cap] w fun e w' => e = .returned (.bool true) ∧ Below w.heap.size w w' := by
  obtain ⟨i0, hi, hz0, hz1, hz2⟩ := info_parts u8_info
  have hok := hx.ok
  have HRC := Lib.hid fun w' h1 h2 => refCheck_any v (vagg v A c A' c') w.heap.size w' h1 h2
  have HCP := Lib.hid fun w' h1 h2 => refCopy_any v (vagg v A c A' c') w.heap.size w' h1 h2
  have HRS := Lib.hid fun w' y B' h1 h2 h3 => refSame_any v v (vagg v A c A' c') y B' w' h1 h2 h3
  rw [sameV_self] at HRS
  by_cases hE : chk v = 0
  case neg =>
    obtain ⟨E, hE'⟩ : ∃ E, E = chk v := ⟨_, rfl⟩
    rw [← hE'] at HRC
    have hne : (E != 0) = true := by rw [hE']; simpa using hE
    obtain ⟨k, n, s, ns, ts⟩ := v
    unfold vagg at hx HRC ⊢
    simp only at hx HRC ⊢
    clear hE hE' HCP HRS
    go_enter Try.func9, Try.ntmps9
    go_wp2_with fail
    obtain ⟨wo, hwo⟩ : ∃ x, x = w.alloc (.cells #[.int .i64 k, .int .i64 n, .string s, .slice A ns.length c, .slice A' ts.length c'] 26) := ⟨_, rfl⟩
    rw [← hwo]
    obtain ⟨Bo, hb0⟩ := boxed hwo
    clear hwo
    refine (vspeaks_any wo).mono ?_
    rintro e w1 ⟨rfl, b1⟩
    have B1 := Bo.below b1 Bo.lt
    have hb1 := hb0.trans (b1.mono hb0.size)
    obtain ⟨x0, x1, x2, x3, x4⟩ := box_cells B1
    go_wp2_with fail
    refine (HRC.out w1 (hx.below hb1) hb1.size).mono ?_
    rintro e w2 ⟨rfl, b2⟩
    go_wp2
    go_ret
    exact ⟨rfl, hb1.trans (b2.mono hb1.size)⟩
  have hR := (right_iff v).1 hE
  have HEN := Lib.hid fun w' y B' h1 h2 => Encode_any v y B' w' h1 h2
  unfold EncPost at HEN
  rw [hE] at HRC HEN
  rw [encV_ok hE] at HEN
  have hXl := encB_le hR
  obtain ⟨d1, d2⟩ := dec_there hR hok
  obtain ⟨p1, p2, p3⟩ := pref_there hR hok bs
  have HD := Lib.hid fun A' c' B' w' h1 h2 h3 h4 => Decode_any A' c' B' (encB v) w' h1 h2 h3 h4
  have HP := Lib.hid fun A' c' B' w' h1 h2 h3 h4 => Prefix_any A' c' B' (encB v ++ bs) w' h1 h2 h3 h4
  unfold DecPost at HD
  unfold PrefPost at HP
  rw [d1, d2] at HD
  rw [p1, p2, p3] at HP
  obtain ⟨X, hX⟩ : ∃ X, X = encB v := ⟨_, rfl⟩
  rw [← hX] at HEN HD HP hXl
  obtain ⟨L, hL⟩ : ∃ L, L = X ++ bs := ⟨_, rfl⟩
  rw [← hL] at HP
  have HL := Lib.hid hL
  clear hL
  have hl8 : X.length ≤ 140737488355328 := by omega
  have hsum : X.length + bs.length ≤ 211106232532992 := by omega
  have HC := Lib.hid fun A' c' B' w' h1 h2 => clone_any A' c' B' X w' h1 h2 hl8
  have heq : ((X.length : Int) == (X.length : Int)) = true := by simp
  obtain ⟨k, n, s, ns, ts⟩ := v
  unfold vagg at hx HRC HCP HRS ⊢
  simp only at hx HRC HCP HRS HD HP ⊢
  clear hE hR d1 d2 p1 p2 p3 hX
  go_enter Try.func9, Try.ntmps9
  go_wp2_with fail
  obtain ⟨wo, hwo⟩ : ∃ x, x = w.alloc (.cells #[.int .i64 k, .int .i64 n, .string s, .slice A ns.length c, .slice A' ts.length c'] 26) := ⟨_, rfl⟩
  rw [← hwo]
  obtain ⟨Bo, hb0⟩ := boxed hwo
  clear hwo
  refine (vspeaks_any wo).mono ?_
  rintro e w1 ⟨rfl, b1⟩
  have B1 := Bo.below b1 Bo.lt
  have hb1 := hb0.trans (b1.mono hb0.size)
  clear Bo hb0 b1
  obtain ⟨x0, x1, x2, x3, x4⟩ := box_cells B1
  go_wp2_with fail
  refine (HRC.out w1 (hx.below hb1) hb1.size).mono ?_
  rintro e w2 ⟨rfl, b2⟩
  have B2 := B1.below b2 B1.lt
  have hb2 := hb1.trans (b2.mono hb1.size)
  clear x0 x1 x2 x3 x4 B1 b2 hb1
  obtain ⟨x0, x1, x2, x3, x4⟩ := box_cells B2
  go_wp2_with fail
  refine (HCP.out w2 (hx.below hb2) hb2.size).mono ?_
  rintro e w3 ⟨y, rfl, hy, b3⟩
  have B3 := B2.below b3 B2.lt
  have hb3 := hb2.trans (b3.mono hb2.size)
  clear x0 x1 x2 x3 x4 B2 b3 hb2
  go_wp2_with fail
  refine (HEN.out w3 y _ hy (Nat.le_refl _)).mono ?_
  rintro e w4 ⟨y, rfl, hy, b4⟩
  obtain ⟨A4, c4, rfl, -, -, r4, -⟩ := hy.form
  have B4 := B3.below b4 B3.lt
  have hb4 := hb3.trans (b4.mono hb3.size)
  clear B3 b4 hb3 hy
  go_wp2_with fail
  refine (HC.out A4 c4 _ w4 r4 (Nat.le_refl _)).mono ?_
  rintro e w5 ⟨y, rfl, hy, b5⟩
  obtain ⟨A5, c5, rfl, hc5, hm5, r5, -⟩ := hy.form
  have B5 := B4.below b5 B4.lt
  have hb5 := hb4.trans (b5.mono hb4.size)
  have r45 := r4.below b5
  have s5 := b5.size
  clear B4 b5 hb4 hy r4
  go_wp2_with fail
  refine (HD.out A5 c5 _ w5 r5 (Nat.le_refl _) hc5 hm5).mono ?_
  rintro e w6 ⟨A6, c6, A7, c7, rfl, o6, o7, b6⟩
  obtain ⟨w7, hw7⟩ : ∃ x, x = w6.alloc (.cells #[.int .i64 k, .int .i64 n, .string s, .slice A6 ns.length c6, .slice A7 ts.length c7] 26) := ⟨_, rfl⟩
  obtain ⟨C7, b7⟩ := boxed hw7
  have V7 := (vr_of (v := ⟨k, n, s, ns, ts⟩) o6 o7 hok (Nat.le_refl _)).below b7
  have hb6 := hb5.trans (b6.mono hb5.size)
  have hb7 := hb6.trans (b7.mono hb6.size)
  have h06 := hb6.size
  have hl6 : w.heap.size < w6.heap.size := (B5.below b6 B5.lt).lt
  have B7 := (B5.below b6 B5.lt).below b7 (B5.below b6 B5.lt).lt
  have r7 := (r45.below (b6.mono s5)).below (b7.mono (by have := b6.size; omega))
  have HW7 := Lib.hid hw7
  have s6 := b6.size
  have s7 := b7.size
  clear hw7 o6 o7 b6 b7 hb5 hb6 B5 r45 r5 hc5 hm5
  go_upto_region 9 with fail
  rw [← HW7.out]
  obtain ⟨x0, x1, x2, x3, x4⟩ := box_cells B7
  obtain ⟨y0, y1, y2, y3, y4⟩ := box_cells C7
  go_wp2_with fail
  refine (HRS.out w7 _ _ ((hx.below hb7).more h06) V7 s7).mono ?_
  rintro e w8 ⟨rfl, b8⟩
  have B8 := B7.below b8 B7.lt
  have C8 := C7.below b8 C7.lt
  have r8 := r7.below (b8.mono (by omega))
  have hb8 := hb7.trans (b8.mono hb7.size)
  have s8 := b8.size
  clear x0 x1 x2 x3 x4 y0 y1 y2 y3 y4 B7 C7 r7 b8 hb7 V7
  go_wp2_with fail
  refine (HC.out A4 c4 _ w8 r8 (by omega)).mono ?_
  rintro e w9 ⟨y, rfl, hy9, b9⟩
  obtain ⟨A9, c9, rfl, -, -, -, -⟩ := hy9.form
  have B9 := B8.below b9 B8.lt
  have C9 := C8.below b9 C8.lt
  have hb9 := hb8.trans (b9.mono hb8.size)
  have n1 := own_blk_ne hy9.2 B9 (by decide)
  have n2 := own_blk_ne hy9.2 C9 (by decide)
  have rt := r.below hb9
  have s9 := b9.size
  have h08 := hb8.size
  clear B8 C8 r8 b9 hb8
  go_wp2_with (at_builtin; refine wpList_append_bytes_wide _ rfl (.tmp 38) (.tmp 39) 33 rfl w8.heap.size 5 i0 Try.underlying33 hi hz0 hz1 hz2 (.slice A9 X.length c9) X (by rfl) hy9 D cap w.heap.size bs bs.length rfl (by rfl) rt hsum hl8 s9 ?_; intro v10 w10 o10 hg10; rw [← HL.out] at o10; obtain ⟨A10, c10, rfl, hc10, hm10, r10, -⟩ := o10.form)
  have B10 := Blk.grown B9 hg10 (Ne.symm n1)
  have C10 := Blk.grown C9 hg10 (Ne.symm n2)
  have hb10 := hy9.belowTo hb9 h08 hg10 (hb9.size)
  clear B9 C9 hb9 n1 n2 rt o10
  refine (HP.out A10 c10 _ w10 r10 (Nat.le_refl _) hc10 hm10).mono ?_
  rintro e w11 ⟨A11, c11, A12, c12, rfl, o11, o12, b11⟩
  have B11 := B10.below b11 B10.lt
  have C11 := C10.below b11 C10.lt
  have hb11 := hb10.trans (b11.mono hb10.size)
  have m1 := own_blk_ne o11.2 C11 (by decide)
  have m2 := own_blk_ne o12.2 C11 (by decide)
  obtain ⟨w12, hw12⟩ : ∃ x, x = set5 w11 w6.heap.size (.int .i64 k) (.int .i64 n) (.string s) (.slice A11 ns.length c11) (.slice A12 ts.length c12) := ⟨_, rfl⟩
  have B12 : Blk w12 w.heap.size 26 #[.int .i64 k, .int .i64 n, .string s, .slice A ns.length c, .slice A' ts.length c'] := by rw [hw12]; exact blk_far5 B11 (by omega) _ _ _ _ _
  have C12 : Blk w12 w6.heap.size 26 #[.int .i64 k, .int .i64 n, .string s, .slice A11 ns.length c11, .slice A12 ts.length c12] := by rw [hw12]; exact blk_set5 C11 _ _ _ _ _
  have hb12 : Below w.heap.size w w12 := by rw [hw12]; exact set5_below hb11 h06
  have V12 : VR w12 w12.heap.size ⟨k, n, s, ns, ts⟩ (.agg #[.int .i64 k, .int .i64 n, .string s, .slice A11 ns.length c11, .slice A12 ts.length c12]) := by
    rw [hw12]
    exact vr_of (v := ⟨k, n, s, ns, ts⟩) (OL.set5 o11 m1 _ _ _ _ _) (OL.set5 o12 m2 _ _ _ _ _) hok (Nat.le_refl _)
  obtain ⟨y0, y1, y2, y3, y4⟩ := box_cells C11
  obtain ⟨f0, f1, f2, f3, f4⟩ := free_cells C11
  unfold Go.Proofs.Ytcopofdoelcgcaa.set5 at hw12
  have HW12 := Lib.hid hw12
  have hx12 := (hx.below hb12).more (hb12.size)
  clear hw12 B10 C10 B11 b11 hb10 o11 o12 hc10 hm10 r10 m1 m2
  go_upto_region 12 with fail
  rw [← HW12.out]
  clear y0 y1 y2 y3 y4
  obtain ⟨x0, x1, x2, x3, x4⟩ := box_cells B12
  obtain ⟨y0, y1, y2, y3, y4⟩ := box_cells C12
  go_wp2_with fail
  refine (HRS.out w12 _ _ hx12 V12 (Nat.le_refl _)).mono ?_
  rintro e w13 ⟨rfl, b13⟩
  go_wp2
  go_ret
  exact ⟨rfl, hb12.trans (b13.mono hb12.size)⟩

/-! ### THE ROW's STEP -/
theorem own : ownKnob Try.prog.godebug = none := by kernel_rfl
theorem laidOut : laidOutB Try.prog = true := by kernel_rfl

theorem contract (H : Type) (enc : TypeId × Value → H) (W : World) (base : Nat) (args : Array Value) (ds gs : List (DataW H)) (before : List MemPlace)
    (hval0 : ∀ (j : Nat) t v, Try.f9.params[j]? = some t → args[j]? = some v → Value.okWide Try.prog W .any base t v)
    (hW : DataW.Whole enc Try.prog Try.f9.params.toList Rows.valueThereSpec.vars false W args.toList ds gs before)
    (hsz : (DataW.weightsEach Try.prog (Try.f9.params.toList ++ (OpenSpec.ofChange Rows.valueThereSpec).bare.plain.varTypes Try.prog) (ds ++ gs)).all (· ≤ reachBytes) = true) :
    Calls Try.prog 9 args W fun e W' => ∃ v, e = .returned v ∧ Rows.valueThereSpec.post enc Try.prog Try.f9 false true false false W args v W' := by
  have hval : ∀ (j : Nat) t v, Try.f9.params[j]? = some t → args[j]? = some v → Value.okWide Try.prog W .any base t v := hval0
  have hW' := hW
  obtain ⟨p, q, hA0, hV, rfl, hfz, hnd⟩ := hW
  have hA : DataW.TrodAll enc Try.prog W 0 (fun _ => true) true Try.f9.params.toList args.toList ds p := hA0
  rw [Try.params9] at hA hval
  obtain ⟨v0, vs0, d0, ds0, p0, q0, hargs, rfl, rfl, h0, r0⟩ := trodAll_cons hA
  obtain ⟨v1, vs1, d1, ds1, p1, q1, rfl, rfl, rfl, h1, r1⟩ := trodAll_cons r0
  obtain ⟨rfl, rfl, rfl⟩ := trodAll_nil r1
  obtain rfl : args = #[v0, v1] := by cases args; simp_all
  obtain ⟨rfl, rfl⟩ := trodVars_none hV
  have k0 := h0
  have lt0 : ∀ x ∈ p0, x.block < W.heap.size := by obtain ⟨m, hm⟩ := k0; exact DataW.trod_lt m _ _ _ hm
  have w0 := reach_at hsz (j := 0) rfl rfl
  have k1 := h1
  have lt1 : ∀ x ∈ p1, x.block < W.heap.size := by obtain ⟨m, hm⟩ := k1; exact DataW.trod_lt m _ _ _ hm
  have w1 := reach_at hsz (j := 1) rfl rfl
  clear hA0 hval0 hsz
  obtain ⟨val0, A0, c0, B0, d0, rfl, hx0⟩ := open_value (hval 0 _ v0 rfl rfl) w0 h0 lt0
  obtain ⟨A1, n1, c1, rfl⟩ := okWide_slice Try.underlying33 (hval 1 33 v1 rfl rfl)
  obtain ⟨b1, rfl, rb1, cb1, mb1⟩ := open_bytes Try.underlying33 Try.underlying5 (by kernel_rfl) (by kernel_rfl) w1 h1
  refine (walk W hx0 rb1 cb1 mb1).mono fun e W' ⟨he, bel⟩ => ?_
  subst he
  exact ⟨_, rfl, _, _, _, [], _, [], hW', trodAll_mk1 (shut_bool Try.underlying4 _), (trodAll_cons_mk (Below.trod laidOut (by kernel_rfl) (of_decide_eq_true (by kernel_rfl)) k0 bel lt0) (trodAll_cons_mk (Below.trod laidOut (by kernel_rfl) (of_decide_eq_true (by kernel_rfl)) k1 bel lt1) trodAll_mk0)), rfl, bel.frame _, fun h => by cases h⟩

set_option maxRecDepth 100000 in
theorem lifted (os : Os) (started : os.Started) (H : Type) (enc : TypeId × Value → H) :
    ReturnsInHanded {} Try.checked os 9 .any (Rows.valueThereSpec.pre6 enc Try.prog Try.f9 Rows.valueThereRow.domain false) (Rows.valueThereSpec.post enc Try.prog Try.f9 false true false false) := by
  refine returnsInHanded_of_change_sized (C := Try.checked) own started (by kernel_rfl) Try.func9
    (ChangeSpec.witness6 (enc := enc) (C := Try.checked) false ⟨#[], #[.agg #[.int .i64 0, .int .i64 0, .string ⟨#[]⟩, .slice none 0 0, .slice none 0 0], .slice none 0 0], []⟩ 8 (by kernel_rfl) (by kernel_rfl) (by kernel_rfl) (by kernel_rfl)) ?_
  intro W base args ds gs before hval hW _ hsz _
  exact contract H enc W base args ds gs before hval hW hsz

/-- THE STATEMENT -/
theorem proved : Rows.ValueThereSaid :=
  OpenClaim.holds_of_wide 9 Try.f9 rfl rfl rfl rfl rfl rfl rfl ⟨rfl, rfl, rfl, rfl, rfl⟩ rfl rfl rfl rfl rfl (by kernel_rfl) Try.func9 (by kernel_rfl)
    (of_decide_eq_true (by kernel_rfl)) (by unfold Func.isWrapper; rw [if_neg (of_decide_eq_false (by kernel_rfl))]; exact ⟨rfl, rfl⟩)
    (fun os started H enc _ => lifted os started H enc)
end Go.Proofs.Ytcopofdoelcgcaa.valueThere
