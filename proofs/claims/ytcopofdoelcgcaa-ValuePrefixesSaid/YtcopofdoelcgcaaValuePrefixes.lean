/- For all bytes, Prefix gives exactly the value with which they begin, its length, or the error, as the document has them. -/
import Derived.Test.YtcopofdoelcgcaaOpen
import Derived.Test.YtcopofdoelcgcaaRows
import Derived.Test.YtcopofdoelcgcaaValLaw
import Derived.Test.YtcopofdoelcgcaaValSpeak
import Derived.Test.YtcopofdoelcgcaaValEnc4
import Derived.Test.YtcopofdoelcgcaaValSame3
import Derived.Deep.RegionHeld3
import Derived.Deep.Cut
namespace Go.Proofs.Ytcopofdoelcgcaa.valuePrefixes
open Go.ChangeShapes Go.WideShapes Go.ChangeAt Go.RowKit
open Go.ChangeMaps (open_string shut_string)
set_option linter.unusedVariables false

set_option maxRecDepth 100000 in
set_option maxHeartbeats 2000000 in
theorem walk (w : World) {A : Option Addr} {cap : Nat} {bs : List Nat} (r : RB w w.heap.size A bs) (hc : bs.length ≤ cap) (hm : cap ≤ 140737488351232) :
    Calls Try.prog 8 #[.slice A bs.length cap] w fun e w' => e = .returned (.bool true) ∧ Below w.heap.size w w' := by
  have hcm : cap ≤ maxLen := by unfold maxLen; omega
  have hl8 : bs.length ≤ 140737488355328 := by omega
  have hok0 := pref_vok r.1
  have HD := Lib.hid fun A' c' B' w' h1 h2 h3 h4 => Prefix_any A' c' B' bs w' h1 h2 h3 h4
  have HR := Lib.hid fun w' h1 h2 => refPrefix_any A cap w.heap.size bs w' h1 h2 hc hcm
  unfold PrefPost at HD HR
  obtain ⟨V, hV⟩ : ∃ V, V = prefV bs := ⟨_, rfl⟩
  obtain ⟨E, hE⟩ : ∃ E, E = prefErr bs := ⟨_, rfl⟩
  obtain ⟨N, hN⟩ : ∃ N, N = prefN bs := ⟨_, rfl⟩
  rw [← hV, ← hE, ← hN] at HD HR
  rw [← hV] at hok0
  clear hV hE hN
  obtain ⟨v1, v2, v3, v4, v5⟩ := V
  have heq : (E == E) = true := by simp
  have heq2 : ((N : Int) == (N : Int)) = true := by simp
  have HC := Lib.hid fun w' h1 h2 => clone_any A cap w.heap.size bs w' h1 h2 hl8
  go_enter Try.func8, Try.ntmps8
  go_wp2_with fail
  refine (vspeaks_any w).mono ?_
  rintro e w1 ⟨rfl, b1⟩
  go_wp2_with fail
  refine (HC.out w1 (r.below b1) b1.size).mono ?_
  rintro e w2 ⟨y, rfl, hy, b2⟩
  obtain ⟨A2, c2, rfl, hc2, hm2, r2, -⟩ := hy.form
  have hb2 := b1.trans (b2.mono b1.size)
  go_wp2_with fail
  refine (HD.out A2 c2 _ w2 r2 (Nat.le_refl _) hc2 hm2).mono ?_
  rintro e w3 ⟨A3, c3, A4, c4, rfl, o3, o4, b3⟩
  have hb3 := hb2.trans (b3.mono hb2.size)
  obtain ⟨w4, hw4⟩ : ∃ x, x = w3.alloc (.cells #[.int .i64 v1, .int .i64 v2, .string v3, .slice A3 v4.length c3, .slice A4 v5.length c4] 26) := ⟨_, rfl⟩
  obtain ⟨B4, b4⟩ := boxed hw4
  have V4 := (vr_of o3 o4 hok0 (Nat.le_refl _)).below b4
  have hb4 := hb3.trans (b4.mono hb3.size)
  have HW4 := Lib.hid hw4
  have s4 := b4.size
  have hl4 := B4.lt
  clear hw4 b1 b2 b3 b4 hb2 hb3 o3 o4 hy hc2 hm2 r2
  go_upto_region 4 with fail
  rw [← HW4.out]
  go_wp2_with fail
  refine (HR.out w4 (r.below hb4) hb4.size).mono ?_
  rintro e w5 ⟨A5, c5, A6, c6, rfl, o5, o6, b5⟩
  obtain ⟨w6, hw6⟩ : ∃ x, x = w5.alloc (.cells #[.int .i64 v1, .int .i64 v2, .string v3, .slice A5 v4.length c5, .slice A6 v5.length c6] 26) := ⟨_, rfl⟩
  obtain ⟨B6, b6⟩ := boxed hw6
  have V6 := (vr_of o5 o6 hok0 (Nat.le_refl _)).below b6
  have hb5 := hb4.trans (b5.mono hb4.size)
  have hb6 := hb5.trans (b6.mono hb5.size)
  have b56 := b5.trans (b6.mono b5.size)
  have C6 := B4.below b56 hl4
  have W4 := (V4.below (b56.mono s4)).more (show w3.heap.size ≤ w5.heap.size by have := b5.size; omega)
  have HW6 := Lib.hid hw6
  have s6 := b6.size
  clear hw6 o5 o6 b5 b6 hb4 hb5 b56 B4 V4
  go_upto_region 5 with fail
  rw [← HW6.out]
  obtain ⟨x0, x1, x2, x3, x4⟩ := box_cells C6
  obtain ⟨y0, y1, y2, y3, y4⟩ := box_cells B6
  go_wp2_with fail
  have HS := refSame_any ⟨v1, v2, v3, v4, v5⟩ ⟨v1, v2, v3, v4, v5⟩ _ _ w5.heap.size w6 W4 V6 s6
  rw [sameV_self] at HS
  refine HS.mono ?_
  rintro e w7 ⟨rfl, b7⟩
  go_wp2
  go_ret
  exact ⟨rfl, hb6.trans (b7.mono hb6.size)⟩

/-! ### THE ROW's STEP -/
theorem own : ownKnob Try.prog.godebug = none := by kernel_rfl
theorem laidOut : laidOutB Try.prog = true := by kernel_rfl

theorem contract (H : Type) (enc : TypeId × Value → H) (W : World) (base : Nat) (args : Array Value) (ds gs : List (DataW H)) (before : List MemPlace)
    (hval0 : ∀ (j : Nat) t v, Try.f8.params[j]? = some t → args[j]? = some v → Value.okWide Try.prog W .any base t v)
    (hW : DataW.Whole enc Try.prog Try.f8.params.toList Rows.valuePrefixesSpec.vars false W args.toList ds gs before)
    (hsz : (DataW.weightsEach Try.prog (Try.f8.params.toList ++ (OpenSpec.ofChange Rows.valuePrefixesSpec).bare.plain.varTypes Try.prog) (ds ++ gs)).all (· ≤ reachBytes) = true) :
    Calls Try.prog 8 args W fun e W' => ∃ v, e = .returned v ∧ Rows.valuePrefixesSpec.post enc Try.prog Try.f8 false true false false W args v W' := by
  have hval : ∀ (j : Nat) t v, Try.f8.params[j]? = some t → args[j]? = some v → Value.okWide Try.prog W .any base t v := hval0
  have hW' := hW
  obtain ⟨p, q, hA0, hV, rfl, hfz, hnd⟩ := hW
  have hA : DataW.TrodAll enc Try.prog W 0 (fun _ => true) true Try.f8.params.toList args.toList ds p := hA0
  rw [Try.params8] at hA hval
  obtain ⟨v0, vs0, d0, ds0, p0, q0, hargs, rfl, rfl, h0, r0⟩ := trodAll_cons hA
  obtain ⟨rfl, rfl, rfl⟩ := trodAll_nil r0
  obtain rfl : args = #[v0] := by cases args; simp_all
  obtain ⟨rfl, rfl⟩ := trodVars_none hV
  have k0 := h0
  have lt0 : ∀ x ∈ p0, x.block < W.heap.size := by obtain ⟨m, hm⟩ := k0; exact DataW.trod_lt m _ _ _ hm
  have w0 := reach_at hsz (j := 0) rfl rfl
  clear hA0 hval0 hsz
  obtain ⟨A0, n0, c0, rfl⟩ := okWide_slice Try.underlying33 (hval 0 33 v0 rfl rfl)
  obtain ⟨b0, rfl, rb0, cb0, mb0⟩ := open_bytes Try.underlying33 Try.underlying5 (by kernel_rfl) (by kernel_rfl) w0 h0
  refine (walk W rb0 cb0 mb0).mono fun e W' ⟨he, bel⟩ => ?_
  subst he
  exact ⟨_, rfl, _, _, _, [], _, [], hW', trodAll_mk1 (shut_bool Try.underlying4 _), (trodAll_cons_mk (Below.trod laidOut (by kernel_rfl) (of_decide_eq_true (by kernel_rfl)) k0 bel lt0) trodAll_mk0), rfl, bel.frame _, fun h => by cases h⟩

set_option maxRecDepth 100000 in
theorem lifted (os : Os) (started : os.Started) (H : Type) (enc : TypeId × Value → H) :
    ReturnsInHanded {} Try.checked os 8 .any (Rows.valuePrefixesSpec.pre6 enc Try.prog Try.f8 Rows.valuePrefixesRow.domain false) (Rows.valuePrefixesSpec.post enc Try.prog Try.f8 false true false false) := by
  refine returnsInHanded_of_change_sized (C := Try.checked) own started (by kernel_rfl) Try.func8
    (ChangeSpec.witness6 (enc := enc) (C := Try.checked) false ⟨#[], #[.slice none 0 0], []⟩ 8 (by kernel_rfl) (by kernel_rfl) (by kernel_rfl) (by kernel_rfl)) ?_
  intro W base args ds gs before hval hW _ hsz _
  exact contract H enc W base args ds gs before hval hW hsz

/-- THE STATEMENT -/
theorem proved : Rows.ValuePrefixesSaid :=
  OpenClaim.holds_of_wide 8 Try.f8 rfl rfl rfl rfl rfl rfl rfl ⟨rfl, rfl, rfl, rfl, rfl⟩ rfl rfl rfl rfl rfl (by kernel_rfl) Try.func8 (by kernel_rfl)
    (of_decide_eq_true (by kernel_rfl)) (by unfold Func.isWrapper; rw [if_neg (of_decide_eq_false (by kernel_rfl))]; exact ⟨rfl, rfl⟩)
    (fun os started H enc _ => lifted os started H enc)
end Go.Proofs.Ytcopofdoelcgcaa.valuePrefixes
