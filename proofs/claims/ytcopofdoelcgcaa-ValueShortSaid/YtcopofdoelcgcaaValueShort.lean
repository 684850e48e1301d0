/- For every value and every number: the value's bytes that are cut there are short, for Decode and for Prefix, and nothing is read of them. -/
import Derived.Test.YtcopofdoelcgcaaOpen
import Derived.Test.YtcopofdoelcgcaaRows
import Derived.Test.YtcopofdoelcgcaaValLaw
import Derived.Test.YtcopofdoelcgcaaValSpeak
import Derived.Test.YtcopofdoelcgcaaValEnc4
import Derived.Test.YtcopofdoelcgcaaValSame3
import Derived.Deep.RegionHeld3
import Derived.Deep.Cut
namespace Go.Proofs.Ytcopofdoelcgcaa.valueShort
open Go.ChangeShapes Go.WideShapes Go.ChangeAt Go.RowKit
open Go.ChangeMaps (open_string shut_string)
set_option linter.unusedVariables false

set_option maxRecDepth 100000 in
set_option maxHeartbeats 4000000 in
theorem walk (w : World) {v : Vv} {A : Option Addr} {c : Nat} {A' : Option Addr} {c' : Nat} (hx : VR w w.heap.size v (vagg v A c A' c')) {m : Int} (hmb : -9223372036854775808 ≤ m ∧ m ≤ 9223372036854775807) :
    Calls Try.prog 11 #[vagg v A c A' c', .int .i64 m] w fun e w' => e = .returned (.bool true) ∧ Below w.heap.size w w' := by
  have hok := hx.ok
  have HRE := Lib.hid fun w' h1 h2 => refEncode_any v (vagg v A c A' c') w.heap.size w' h1 h2
  have hXl : (encV v).length ≤ 40402 := by
    by_cases h : chk v = 0
    · rw [encV_ok h]; exact encB_le ((right_iff v).1 h)
    · rw [encV_no h]; simp
  have HCUT : Hid (∀ kk, kk < (encV v).length → prefErr ((encV v).take kk) = 10) := Lib.hid fun kk hk => by
    by_cases h : chk v = 0
    · rw [encV_ok h] at hk ⊢; exact pref_cut ((right_iff v).1 h) hok hk
    · rw [encV_no h] at hk; simp at hk
  obtain ⟨X, hX⟩ : ∃ X, X = encV v := ⟨_, rfl⟩
  rw [← hX] at HRE hXl HCUT
  obtain ⟨hm1, hm2⟩ := hmb
  obtain ⟨k, n, s, ns, ts⟩ := v
  unfold vagg at hx HRE ⊢
  simp only at hx HRE ⊢
  clear hX hok
  by_cases hout : m < 0 ∨ (X.length : Int) ≤ m
  · have hd : m < 0 ∨ ¬ m < 0 ∧ (X.length : Int) ≤ m := by omega
    clear hout HCUT
    rcases hd with hd | ⟨hd, hd2⟩
    all_goals
      go_enter Try.func11, Try.ntmps11
      go_wp2_with fail
      obtain ⟨wo, hwo⟩ : ∃ x, x = w.alloc (.cells #[.int .i64 k, .int .i64 n, .string s, .slice A ns.length c, .slice A' ts.length c'] 26) := ⟨_, rfl⟩
      rw [← hwo]
      obtain ⟨Bo, hb0⟩ := boxed hwo
      clear hwo
      refine (vspeaks_any wo).mono ?_
      rintro e w1 ⟨rfl, b1⟩
      have B1 := Bo.below b1 Bo.lt
      have hb1 := hb0.trans (b1.mono hb0.size)
      obtain ⟨x0, x1, x2, x3, x4⟩ := box_cells B1
      go_wp2_with fail
      refine (HRE.out w1 (hx.below hb1) hb1.size).mono ?_
      rintro e w2 ⟨y, rfl, hy, b2⟩
      obtain ⟨A4, c4, rfl, -, -, -, -⟩ := hy.form
      go_wp2
      go_ret
      exact ⟨rfl, hb1.trans (b2.mono hb1.size)⟩
  obtain ⟨kk, rfl⟩ : ∃ kk : Nat, m = kk := ⟨m.toNat, by omega⟩
  have hkk : kk < X.length := by omega
  have hp := HCUT.out kk hkk
  obtain ⟨p1, p2, p3⟩ := pref_bad hp (by decide)
  obtain ⟨d1, d2⟩ := dec_bad (by rw [hp]; decide)
  have HD := Lib.hid fun A' c' B' w' h1 h2 h3 h4 => Decode_any A' c' B' (X.take kk) w' h1 h2 h3 h4
  have HP := Lib.hid fun A' c' B' w' h1 h2 h3 h4 => Prefix_any A' c' B' (X.take kk) w' h1 h2 h3 h4
  have hTl : (X.take kk).length = kk := by rw [List.length_take]; omega
  have HC := Lib.hid fun A' c' B' w' h1 h2 => clone_any A' c' B' (X.take kk) w' h1 h2 (by omega)
  unfold DecPost at HD
  unfold PrefPost at HP
  rw [d1, d2, hp] at HD
  rw [p1, p2, p3] at HP
  unfold vnone at HD HP
  simp only [List.length_nil] at HD HP
  rw [hTl] at HD HP HC
  obtain ⟨T, hT⟩ : ∃ T, T = X.take kk := ⟨_, rfl⟩
  rw [← hT] at HD HP HC hTl
  have HT := Lib.hid hT
  have HTl := Lib.hid hTl
  have hn1 : ¬ (kk : Int) < 0 := by omega
  have hn2 : ¬ (X.length : Int) ≤ kk := by omega
  clear hout HCUT hp p1 p2 p3 d1 d2 hT hTl
  have HRS := Lib.hid fun w' y B' h1 h3 => refSame_any vnone vnone y (.agg #[.int .i64 0, .int .i64 0, .string ⟨#[]⟩, .slice none 0 0, .slice none 0 0]) B' w' h1 ((vr_small w' (k := 0) (n := 0) (s := .empty) vok_none none none 0 0).more (Nat.zero_le _)) h3
  rw [sameV_self] at HRS
  go_enter Try.func11, Try.ntmps11
  go_wp2_with fail
  obtain ⟨wo, hwo⟩ : ∃ x, x = w.alloc (.cells #[.int .i64 k, .int .i64 n, .string s, .slice A ns.length c, .slice A' ts.length c'] 26) := ⟨_, rfl⟩
  rw [← hwo]
  obtain ⟨Bo, hb0⟩ := boxed hwo
  clear hwo
  refine (vspeaks_any wo).mono ?_
  rintro e w1 ⟨rfl, b1⟩
  have B1 := Bo.below b1 Bo.lt
  have hb1 := hb0.trans (b1.mono hb0.size)
  obtain ⟨x0, x1, x2, x3, x4⟩ := box_cells B1
  go_wp2_with fail
  refine (HRE.out w1 (hx.below hb1) hb1.size).mono ?_
  rintro e w2 ⟨y, rfl, hy, b2⟩
  obtain ⟨A2, c2, rfl, hc2, hm2', r2, -⟩ := hy.form
  have hb2 := hb1.trans (b2.mono hb1.size)
  have q2 := r2.take kk
  rw [← HT.out] at q2
  have hcc : kk ≤ c2 := by omega
  unfold maxLen at hm2'
  clear x0 x1 x2 x3 x4 Bo hb0 b1 B1 hb1 b2 hy r2
  go_wp2_with fail
  refine (HC.out A2 c2 _ w2 q2 (Nat.le_refl _)).mono ?_
  rintro e w3 ⟨y, rfl, hy, b3⟩
  obtain ⟨A3, c3, rfl, hc3, hm3, r3, -⟩ := hy.form
  rw [HTl.out] at hc3 ⊢
  have hb3 := hb2.trans (b3.mono hb2.size)
  have q3 := q2.below b3
  have s3 := b3.size
  go_wp2_with fail
  refine (HD.out A3 c3 _ w3 r3 (Nat.le_refl _) hc3 hm3).mono ?_
  rintro e w4 ⟨A4, c4, A5, c5, rfl, o4, o5, b4⟩
  obtain ⟨w5, hw5⟩ : ∃ x, x = w4.alloc (.cells #[.int .i64 0, .int .i64 0, .string .empty, .slice A4 0 c4, .slice A5 0 c5] 26) := ⟨_, rfl⟩
  obtain ⟨C5, b5⟩ := boxed hw5
  have V5 := (vr_of (v := vnone) o4 o5 vok_none (Nat.le_refl _)).below b5
  have b45 := b4.trans (b5.mono b4.size)
  have hb5 := hb3.trans (b45.mono hb3.size)
  have q5 := q3.below (b45.mono s3)
  have s4 := b4.size
  have s5 := b5.size
  have HW5 := Lib.hid hw5
  clear hw5 o4 o5 b4 b5 b45 hb3 q3 r3 hc3 hm3 hy
  go_upto_region 7 with fail
  rw [← HW5.out]
  go_wp2_with fail
  refine (HC.out A2 c2 _ w5 q5 (by omega)).mono ?_
  rintro e w6 ⟨y, rfl, hy, b6⟩
  obtain ⟨A6, c6, rfl, hc6, hm6, r6, -⟩ := hy.form
  rw [HTl.out] at hc6 ⊢
  have hb6 := hb5.trans (b6.mono hb5.size)
  have C6 := C5.below b6 C5.lt
  have V6 := V5.below (b6.mono s5)
  have s6 := b6.size
  clear C5 V5 hb5 b6
  go_wp2_with fail
  refine (HP.out A6 c6 _ w6 r6 (Nat.le_refl _) hc6 hm6).mono ?_
  rintro e w7 ⟨A7, c7, A8, c8, rfl, o7, o8, b7⟩
  obtain ⟨w8, hw8⟩ : ∃ x, x = w7.alloc (.cells #[.int .i64 0, .int .i64 0, .string .empty, .slice A7 0 c7, .slice A8 0 c8] 26) := ⟨_, rfl⟩
  obtain ⟨D8, b8⟩ := boxed hw8
  have U8 := (vr_of (v := vnone) o7 o8 vok_none (Nat.le_refl _)).below b8
  have b78 := b7.trans (b8.mono b7.size)
  have hb8 := hb6.trans (b78.mono hb6.size)
  have C8 := C6.below b78 C6.lt
  have V8 := V6.below (b78.mono (by omega))
  have s7 := b7.size
  have s8 := b8.size
  have HW8 := Lib.hid hw8
  clear hw8 o7 o8 b7 b8 b78 hb6 C6 V6 r6 hc6 hm6 hy
  go_upto_region 8 with fail
  rw [← HW8.out]
  obtain ⟨x0, x1, x2, x3, x4⟩ := box_cells C8
  obtain ⟨y0, y1, y2, y3, y4⟩ := box_cells D8
  go_wp2_with fail
  refine (HRS.out w8 _ _ V8 (by omega)).mono ?_
  rintro e w9 ⟨rfl, b9⟩
  have D9 := D8.below b9 D8.lt
  have U9 := U8.below (b9.mono s8)
  have hb9 := hb8.trans (b9.mono hb8.size)
  have s9 := b9.size
  clear y0 y1 y2 y3 y4
  obtain ⟨y0, y1, y2, y3, y4⟩ := box_cells D9
  go_wp2_with fail
  refine (HRS.out w9 _ _ U9 (by omega)).mono ?_
  rintro e w10 ⟨rfl, b10⟩
  go_wp2
  go_ret
  exact ⟨rfl, hb9.trans (b10.mono hb9.size)⟩

/-! ### THE ROW's STEP -/
theorem own : ownKnob Try.prog.godebug = none := by kernel_rfl
theorem laidOut : laidOutB Try.prog = true := by kernel_rfl

theorem contract (H : Type) (enc : TypeId × Value → H) (W : World) (base : Nat) (args : Array Value) (ds gs : List (DataW H)) (before : List MemPlace)
    (hval0 : ∀ (j : Nat) t v, Try.f11.params[j]? = some t → args[j]? = some v → Value.okWide Try.prog W .any base t v)
    (hW : DataW.Whole enc Try.prog Try.f11.params.toList Rows.valueShortSpec.vars false W args.toList ds gs before)
    (hsz : (DataW.weightsEach Try.prog (Try.f11.params.toList ++ (OpenSpec.ofChange Rows.valueShortSpec).bare.plain.varTypes Try.prog) (ds ++ gs)).all (· ≤ reachBytes) = true) :
    Calls Try.prog 11 args W fun e W' => ∃ v, e = .returned v ∧ Rows.valueShortSpec.post enc Try.prog Try.f11 false true false false W args v W' := by
  have hval : ∀ (j : Nat) t v, Try.f11.params[j]? = some t → args[j]? = some v → Value.okWide Try.prog W .any base t v := hval0
  have hW' := hW
  obtain ⟨p, q, hA0, hV, rfl, hfz, hnd⟩ := hW
  have hA : DataW.TrodAll enc Try.prog W 0 (fun _ => true) true Try.f11.params.toList args.toList ds p := hA0
  rw [Try.params11] at hA hval
  obtain ⟨v0, vs0, d0, ds0, p0, q0, hargs, rfl, rfl, h0, r0⟩ := trodAll_cons hA
  obtain ⟨v1, vs1, d1, ds1, p1, q1, rfl, rfl, rfl, h1, r1⟩ := trodAll_cons r0
  obtain ⟨rfl, rfl, rfl⟩ := trodAll_nil r1
  obtain rfl : args = #[v0, v1] := by cases args; simp_all
  obtain ⟨rfl, rfl⟩ := trodVars_none hV
  have k0 := h0
  have lt0 : ∀ x ∈ p0, x.block < W.heap.size := by obtain ⟨m, hm⟩ := k0; exact DataW.trod_lt m _ _ _ hm
  have w0 := reach_at hsz (j := 0) rfl rfl
  have k1 := h1
  have lt1 : ∀ x ∈ p1, x.block < W.heap.size := by obtain ⟨m, hm⟩ := k1; exact DataW.trod_lt m _ _ _ hm
  have w1 := reach_at hsz (j := 1) rfl rfl
  clear hA0 hval0 hsz
  obtain ⟨val0, A0, c0, B0, d0, rfl, hx0⟩ := open_value (hval 0 _ v0 rfl rfl) w0 h0 lt0
  obtain ⟨a1, rfl, rfl, rfl, wf1⟩ := open_int Try.underlying3 (hval 1 3 v1 rfl rfl) h1
  refine (walk W hx0 (bounds_i64 wf1)).mono fun e W' ⟨he, bel⟩ => ?_
  subst he
  exact ⟨_, rfl, _, _, _, [], _, [], hW', trodAll_mk1 (shut_bool Try.underlying4 _), (trodAll_cons_mk (Below.trod laidOut (by kernel_rfl) (of_decide_eq_true (by kernel_rfl)) k0 bel lt0) (trodAll_cons_mk (Below.trod laidOut (by kernel_rfl) (of_decide_eq_true (by kernel_rfl)) k1 bel lt1) trodAll_mk0)), rfl, bel.frame _, fun h => by cases h⟩

set_option maxRecDepth 100000 in
theorem lifted (os : Os) (started : os.Started) (H : Type) (enc : TypeId × Value → H) :
    ReturnsInHanded {} Try.checked os 11 .any (Rows.valueShortSpec.pre6 enc Try.prog Try.f11 Rows.valueShortRow.domain false) (Rows.valueShortSpec.post enc Try.prog Try.f11 false true false false) := by
  refine returnsInHanded_of_change_sized (C := Try.checked) own started (by kernel_rfl) Try.func11
    (ChangeSpec.witness6 (enc := enc) (C := Try.checked) false ⟨#[], #[.agg #[.int .i64 0, .int .i64 0, .string ⟨#[]⟩, .slice none 0 0, .slice none 0 0], .int .i64 0], []⟩ 8 (by kernel_rfl) (by kernel_rfl) (by kernel_rfl) (by kernel_rfl)) ?_
  intro W base args ds gs before hval hW _ hsz _
  exact contract H enc W base args ds gs before hval hW hsz

/-- THE STATEMENT -/
theorem proved : Rows.ValueShortSaid :=
  OpenClaim.holds_of_wide 11 Try.f11 rfl rfl rfl rfl rfl rfl rfl ⟨rfl, rfl, rfl, rfl, rfl⟩ rfl rfl rfl rfl rfl (by kernel_rfl) Try.func11 (by kernel_rfl)
    (of_decide_eq_true (by kernel_rfl)) (by unfold Func.isWrapper; rw [if_neg (of_decide_eq_false (by kernel_rfl))]; exact ⟨rfl, rfl⟩)
    (fun os started H enc _ => lifted os started H enc)
end Go.Proofs.Ytcopofdoelcgcaa.valueShort
