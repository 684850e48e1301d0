/- For all bytes: what Decode takes is right, and its bytes are those it was read from. -/
import Derived.Test.YtcopofdoelcgcaaOpen
import Derived.Test.YtcopofdoelcgcaaRows
import Derived.Test.YtcopofdoelcgcaaValLaw
import Derived.Test.YtcopofdoelcgcaaValSpeak
import Derived.Test.YtcopofdoelcgcaaValEnc4
import Derived.Test.YtcopofdoelcgcaaValSame3
import Derived.Deep.RegionHeld3
import Derived.Deep.Cut
namespace Go.Proofs.Ytcopofdoelcgcaa.valueBack
open Go.ChangeShapes Go.WideShapes Go.ChangeAt Go.RowKit
open Go.ChangeMaps (open_string shut_string)
set_option linter.unusedVariables false

set_option maxRecDepth 100000 in
set_option maxHeartbeats 2000000 in
theorem walk (w : World) {A : Option Addr} {cap : Nat} {bs : List Nat} (r : RB w w.heap.size A bs) (hc : bs.length ≤ cap) (hm : cap ≤ 140737488351232) :
    Calls Try.prog 10 #[.slice A bs.length cap] w fun e w' => e = .returned (.bool true) ∧ Below w.heap.size w w' := by
  have hlm : bs.length ≤ maxLen := by unfold maxLen; omega
  have hl8 : bs.length ≤ 140737488355328 := by omega
  have hok0 := dec_vok r.1
  have HD := Lib.hid fun A' c' B' w' h1 h2 h3 h4 => Decode_any A' c' B' bs w' h1 h2 h3 h4
  have HWH := Lib.hid (@dec_whole bs r.1)
  unfold DecPost at HD
  obtain ⟨V, hV⟩ : ∃ V, V = decV bs := ⟨_, rfl⟩
  obtain ⟨E, hE⟩ : ∃ E, E = decErr bs := ⟨_, rfl⟩
  rw [← hV, ← hE] at HD HWH
  rw [← hV] at hok0
  clear hV hE
  have HC := Lib.hid fun w' h1 h2 => clone_any A cap w.heap.size bs w' h1 h2 hl8
  go_enter Try.func10, Try.ntmps10
  go_wp2_with fail
  refine (vspeaks_any w).mono ?_
  rintro e w1 ⟨rfl, b1⟩
  go_wp2_with fail
  refine (HC.out w1 (r.below b1) b1.size).mono ?_
  rintro e w2 ⟨y, rfl, hy, b2⟩
  obtain ⟨A2, c2, rfl, hc2, hm2, r2, -⟩ := hy.form
  have hb2 := b1.trans (b2.mono b1.size)
  go_wp2_with fail
  refine (HD.out A2 c2 _ w2 r2 (Nat.le_refl _) hc2 hm2).mono ?_
  rintro e w3 ⟨A3, c3, A4, c4, rfl, o3, o4, b3⟩
  have hb3 := hb2.trans (b3.mono hb2.size)
  by_cases h0 : E = 0
  · obtain ⟨hR, hV, hB⟩ := HWH.out h0
    have hch := (right_iff V).2 hR
    have HK := Lib.hid fun x B' w' h1 h2 => Check_any V x B' w' h1 h2
    have HE := Lib.hid fun x B' w' h1 h2 => Encode_any V x B' w' h1 h2
    have HWt := Lib.hid fun x B' w' h1 h2 => Weight_any V x B' w' h1 h2
    unfold EncPost at HE
    rw [hch] at HK HE
    rw [encV_ok hch, hB] at HE HWt
    obtain ⟨v1, v2, v3, v4, v5⟩ := V
    subst h0
    have heq : ((bs.length : Int) == (bs.length : Int)) = true := by simp
    obtain ⟨w4, hw4⟩ : ∃ x, x = w3.alloc (.cells #[.int .i64 v1, .int .i64 v2, .string v3, .slice A3 v4.length c3, .slice A4 v5.length c4] 26) := ⟨_, rfl⟩
    obtain ⟨B4, b4⟩ := boxed hw4
    have V4 := (vr_of o3 o4 hok0 (Nat.le_refl _)).below b4
    have hb4 := hb3.trans (b4.mono hb3.size)
    have HW4 := Lib.hid hw4
    have s4 := b4.size
    have hl4 := B4.lt
    clear hw4 b1 b2 b3 b4 hb2 hb3 o3 o4 hy hc2 hm2 r2 hR hV hB hch
    go_upto_region 4 with fail
    rw [← HW4.out]
    obtain ⟨x0, x1, x2, x3, x4⟩ := box_cells B4
    go_wp2_with fail
    refine (HE.out _ _ w4 V4 s4).mono ?_
    rintro e w5 ⟨y, rfl, hy, b5⟩
    obtain ⟨A5, c5, rfl, -, -, r5, -⟩ := hy.form
    have hb5 := hb4.trans (b5.mono hb4.size)
    have B5 := B4.below b5 hl4
    have V5 := V4.below (b5.mono s4)
    have s5 := b5.size
    clear x0 x1 x2 x3 x4 B4 V4 hb4 b5 hy
    obtain ⟨x0, x1, x2, x3, x4⟩ := box_cells B5
    go_wp2_with fail
    refine (HK.out _ _ w5 V5 (by omega)).mono ?_
    rintro e w6 ⟨rfl, b6⟩
    have hb6 := hb5.trans (b6.mono hb5.size)
    have B6 := B5.below b6 B5.lt
    have V6 := V5.below (b6.mono (by omega))
    have r6 := r5.below b6
    have s6 := b6.size
    clear x0 x1 x2 x3 x4 B5 V5 hb5 b6 r5
    go_wp2_with fail
    refine (same_yes A A5 _ cap c5 _ _ bs w6 (r.below hb6) r6 rfl hlm).mono ?_
    rintro e w7 ⟨rfl, n7, rfl⟩
    obtain ⟨x0, x1, x2, x3, x4⟩ := box_cells (B6.drewN n7)
    go_wp2_with fail
    refine (HWt.out _ _ (w6.drewN n7) (V6.drewN n7) (by show w3.heap.size ≤ w6.heap.size; omega)).mono ?_
    rintro e w8 ⟨rfl, b8⟩
    go_wp2
    go_ret
    exact ⟨rfl, (below_drewN hb6 n7).trans (b8.mono (below_drewN hb6 n7).size)⟩
  · have hne : (E != 0) = true := by simpa using h0
    obtain ⟨v1, v2, v3, v4, v5⟩ := V
    go_wp2
    go_ret
    exact ⟨rfl, hb3.alloc hb3.size _⟩

/-! ### THE ROW's STEP -/
theorem own : ownKnob Try.prog.godebug = none := by kernel_rfl
theorem laidOut : laidOutB Try.prog = true := by kernel_rfl

theorem contract (H : Type) (enc : TypeId × Value → H) (W : World) (base : Nat) (args : Array Value) (ds gs : List (DataW H)) (before : List MemPlace)
    (hval0 : ∀ (j : Nat) t v, Try.f10.params[j]? = some t → args[j]? = some v → Value.okWide Try.prog W .any base t v)
    (hW : DataW.Whole enc Try.prog Try.f10.params.toList Rows.valueBackSpec.vars false W args.toList ds gs before)
    (hsz : (DataW.weightsEach Try.prog (Try.f10.params.toList ++ (OpenSpec.ofChange Rows.valueBackSpec).bare.plain.varTypes Try.prog) (ds ++ gs)).all (· ≤ reachBytes) = true) :
    Calls Try.prog 10 args W fun e W' => ∃ v, e = .returned v ∧ Rows.valueBackSpec.post enc Try.prog Try.f10 false true false false W args v W' := by
  have hval : ∀ (j : Nat) t v, Try.f10.params[j]? = some t → args[j]? = some v → Value.okWide Try.prog W .any base t v := hval0
  have hW' := hW
  obtain ⟨p, q, hA0, hV, rfl, hfz, hnd⟩ := hW
  have hA : DataW.TrodAll enc Try.prog W 0 (fun _ => true) true Try.f10.params.toList args.toList ds p := hA0
  rw [Try.params10] at hA hval
  obtain ⟨v0, vs0, d0, ds0, p0, q0, hargs, rfl, rfl, h0, r0⟩ := trodAll_cons hA
  obtain ⟨rfl, rfl, rfl⟩ := trodAll_nil r0
  obtain rfl : args = #[v0] := by cases args; simp_all
  obtain ⟨rfl, rfl⟩ := trodVars_none hV
  have k0 := h0
  have lt0 : ∀ x ∈ p0, x.block < W.heap.size := by obtain ⟨m, hm⟩ := k0; exact DataW.trod_lt m _ _ _ hm
  have w0 := reach_at hsz (j := 0) rfl rfl
  clear hA0 hval0 hsz
  obtain ⟨A0, n0, c0, rfl⟩ := okWide_slice Try.underlying33 (hval 0 33 v0 rfl rfl)
  obtain ⟨b0, rfl, rb0, cb0, mb0⟩ := open_bytes Try.underlying33 Try.underlying5 (by kernel_rfl) (by kernel_rfl) w0 h0
  refine (walk W rb0 cb0 mb0).mono fun e W' ⟨he, bel⟩ => ?_
  subst he
  exact ⟨_, rfl, _, _, _, [], _, [], hW', trodAll_mk1 (shut_bool Try.underlying4 _), (trodAll_cons_mk (Below.trod laidOut (by kernel_rfl) (of_decide_eq_true (by kernel_rfl)) k0 bel lt0) trodAll_mk0), rfl, bel.frame _, fun h => by cases h⟩

set_option maxRecDepth 100000 in
theorem lifted (os : Os) (started : os.Started) (H : Type) (enc : TypeId × Value → H) :
    ReturnsInHanded {} Try.checked os 10 .any (Rows.valueBackSpec.pre6 enc Try.prog Try.f10 Rows.valueBackRow.domain false) (Rows.valueBackSpec.post enc Try.prog Try.f10 false true false false) := by
  refine returnsInHanded_of_change_sized (C := Try.checked) own started (by kernel_rfl) Try.func10
    (ChangeSpec.witness6 (enc := enc) (C := Try.checked) false ⟨#[], #[.slice none 0 0], []⟩ 8 (by kernel_rfl) (by kernel_rfl) (by kernel_rfl) (by kernel_rfl)) ?_
  intro W base args ds gs before hval hW _ hsz _
  exact contract H enc W base args ds gs before hval hW hsz

/-- THE STATEMENT -/
theorem proved : Rows.ValueBackSaid :=
  OpenClaim.holds_of_wide 10 Try.f10 rfl rfl rfl rfl rfl rfl rfl ⟨rfl, rfl, rfl, rfl, rfl⟩ rfl rfl rfl rfl rfl (by kernel_rfl) Try.func10 (by kernel_rfl)
    (of_decide_eq_true (by kernel_rfl)) (by unfold Func.isWrapper; rw [if_neg (of_decide_eq_false (by kernel_rfl))]; exact ⟨rfl, rfl⟩)
    (fun os started H enc _ => lifted os started H enc)
end Go.Proofs.Ytcopofdoelcgcaa.valueBack
