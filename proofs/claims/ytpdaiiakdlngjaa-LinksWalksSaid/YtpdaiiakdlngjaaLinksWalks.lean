/- Any list is walked from any head, or refused, exactly as the document says, for any list within the form's reach. -/
import Derived.Test.YtpdaiiakdlngjaaOpen
import Derived.Test.YtpdaiiakdlngjaaRows
import Derived.Test.YtpdaiiakdlngjaaLkSpeak
import Derived.Test.YtpdaiiakdlngjaaLkOpen
import Derived.Test.YtpdaiiakdlngjaaLkPure2
import Derived.Test.YtpdaiiakdlngjaaLk8
import Derived.Deep.QuietTactic
import Derived.BigQuiet
import Derived.Deep.Cut
namespace Go.Proofs.Ytpdaiiakdlngjaa.linksWalks
open Go.ChangeShapes Go.WideShapes Go.ChangeAt Go.RowKit
open Go.ChangeMaps (open_string shut_string)
set_option linter.unusedVariables false

set_option maxRecDepth 100000 in
set_option maxHeartbeats 2000000 in
theorem walk (w : World) {A : Option Addr} {L : List LkC} {c : Nat} (hx : RR lkc 7 w w.heap.size A L ∧ L.length * 56 ≤ 140737488351232) {node : Int} (hn : -9223372036854775808 ≤ node ∧ node ≤ 9223372036854775807) {head : Int} (hh : -9223372036854775808 ≤ head ∧ head ≤ 9223372036854775807) :
    Calls Try.prog 5 #[.slice A L.length c, .int .i64 node, .int .i64 head] w fun e w' => e = .returned (.bool true) ∧ Below w.heap.size w w' := by
  obtain ⟨hr, hl⟩ := hx
  have hl2 : L.length * 56 ≤ 140737488355328 := by omega
  have HS := Lib.hid (lkSpeaks_any w)
  have HR := Lib.hid hr
  have HIL := Lib.hid (walkP_len L node head)
  clear hr hn hh
  obtain ⟨W, hW⟩ : ∃ W, W = (walkP L node head).1 := ⟨_, rfl⟩
  obtain ⟨E, hE⟩ : ∃ E, E = (walkP L node head).2 := ⟨_, rfl⟩
  have HW := Lib.hid hW
  have HE := Lib.hid hE
  go_enter Try.func5, Try.ntmps5
  go_upto_region 3 with (go_at_call 10; refine (HS.out).mono ?_; rintro e w1 ⟨rfl, hb1⟩)
  have h1 := (St.start Zf w).below hb1
  have HC := Lib.hid (copied_any A c w.heap.size L w1 (h1.rr HR.out (Nat.le_refl _)) h1.size hl2)
  go_upto_region 4 with (go_at_call 11; refine (HC.out).mono ?_; rintro e w2 ⟨v2, rfl, ho2, hb2⟩; have h2 := h1.newOw ho2 hb2; obtain ⟨A2, c2, rfl, -, -, hr2⟩ := h2.owForm)
  have HI0 := Walk_any A2 c2 w2.heap.size L node head w2 hr2 (Nat.le_refl _) hl2
  unfold NewW at HI0
  rw [← HW.out, ← HE.out] at HI0
  have HI := Lib.hid HI0
  have H2 := Lib.hid h2
  clear h1 h2 hr2 ho2 hb2 hb1 HC HS HI0 hW hE
  go_wp2_with (first
    | (go_at_call 18; refine (HI.out).mono ?_; rintro e w3 ⟨v3, rfl, ho3, hb3⟩; have h3 := H2.out.newOl ho3 hb3; obtain ⟨A3, c3, rfl, -, -, -, -⟩ := h3.ol.form; have hf := refWalk_any A c w.heap.size L node head w3 (h3.rr HR.out (Nat.le_refl _)) h3.size hl2; unfold NewW at hf; rw [← HW.out, ← HE.out] at hf; have HF := Lib.hid hf; have H3 := Lib.hid h3; clear h3 ho3 hb3 hf)
    | (go_at_call 19; refine (HF.out).mono ?_; rintro e w4 ⟨v4, rfl, ho4, hb4⟩; have h4 := H3.out.newOl ho4 hb4; obtain ⟨A4, c4, rfl, -, -, -, -⟩ := h4.ol.form; have HX := Lib.hid (sameInts_yes A3 A4 W.length c3 c4 w4.heap.size w4.heap.size W w4 h4.swap.ol.reads.2.1 h4.ol.reads.2.1 rfl (by have := HIL.out; rw [← HW.out] at this; unfold maxLen; omega)); have H4 := Lib.hid h4; clear h4 ho4 hb4)
    | (go_at_call 12; refine (HX.out).mono ?_; rintro e w5 ⟨rfl, n5, hw5⟩; have h5 := H4.out.drewN n5; rw [← hw5] at h5; have HY := Lib.hid (sameLk_yes A2 A L.length c2 c w5.heap.size w.heap.size L w5 h5.bring2.owReads.2.1 (h5.rr HR.out (Nat.le_refl _)) rfl (by omega)); have H5 := Lib.hid h5; clear hw5 h5)
    | (go_at_call 15; refine (HY.out).mono ?_; rintro e w6 ⟨rfl, n6, hw6⟩; have h6 := H5.out.drewN n6; rw [← hw6] at h6; have H6 := Lib.hid h6.bel; clear hw6 h6))
  go_ret
  exact ⟨rfl, H6.out⟩

/-! ### THE ROW's STEP -/
theorem own : ownKnob Try.prog.godebug = none := by kernel_rfl
theorem laidOut : laidOutB Try.prog = true := by kernel_rfl

set_option maxRecDepth 100000 in
theorem contract (H : Type) (enc : TypeId × Value → H) (W : World) (base : Nat) (args : Array Value) (ds gs : List (DataW H)) (before : List MemPlace)
    (hval0 : ∀ (j : Nat) t v, Try.f5.params[j]? = some t → args[j]? = some v → Value.okWide Try.prog W .any base t v)
    (hW : DataW.Whole enc Try.prog Try.f5.params.toList Rows.linksWalksSpec.vars false W args.toList ds gs before)
    (hsz : (DataW.weightsEach Try.prog (Try.f5.params.toList ++ (OpenSpec.ofChange Rows.linksWalksSpec).bare.plain.varTypes Try.prog) (ds ++ gs)).all (· ≤ reachBytes) = true) :
    Calls Try.prog 5 args W fun e W' => ∃ v, e = .returned v ∧ Rows.linksWalksSpec.post enc Try.prog Try.f5 false true false false W args v W' := by
  have hval : ∀ (j : Nat) t v, Try.f5.params[j]? = some t → args[j]? = some v → Value.okWide Try.prog W .any base t v := hval0
  have hW' := hW
  obtain ⟨p, q, hA0, hV, rfl, hfz, hnd⟩ := hW
  have hA : DataW.TrodAll enc Try.prog W 0 (fun _ => true) true Try.f5.params.toList args.toList ds p := hA0
  rw [Try.params5] at hA hval
  obtain ⟨v0, vs0, d0, ds0, p0, q0, hargs, rfl, rfl, h0, r0⟩ := trodAll_cons hA
  obtain ⟨v1, vs1, d1, ds1, p1, q1, rfl, rfl, rfl, h1, r1⟩ := trodAll_cons r0
  obtain ⟨v2, vs2, d2, ds2, p2, q2, rfl, rfl, rfl, h2, r2⟩ := trodAll_cons r1
  obtain ⟨rfl, rfl, rfl⟩ := trodAll_nil r2
  obtain rfl : args = #[v0, v1, v2] := by cases args; simp_all
  obtain ⟨rfl, rfl⟩ := trodVars_none hV
  have k0 := h0
  have lt0 : ∀ x ∈ p0, x.block < W.heap.size := by obtain ⟨m, hm⟩ := k0; exact DataW.trod_lt m _ _ _ hm
  have w0 := reach_at hsz (j := 0) rfl rfl
  have k1 := h1
  have lt1 : ∀ x ∈ p1, x.block < W.heap.size := by obtain ⟨m, hm⟩ := k1; exact DataW.trod_lt m _ _ _ hm
  have w1 := reach_at hsz (j := 1) rfl rfl
  have k2 := h2
  have lt2 : ∀ x ∈ p2, x.block < W.heap.size := by obtain ⟨m, hm⟩ := k2; exact DataW.trod_lt m _ _ _ hm
  have w2 := reach_at hsz (j := 2) rfl rfl
  clear hA0 hval0 hsz
  obtain ⟨A0, L0, c0, rfl, hx0⟩ := open_links (hval 0 _ v0 rfl rfl) w0 h0 lt0
  obtain ⟨a1, rfl, rfl, rfl, wf1⟩ := open_int Try.underlying3 (hval 1 3 v1 rfl rfl) h1
  obtain ⟨a2, rfl, rfl, rfl, wf2⟩ := open_int Try.underlying3 (hval 2 3 v2 rfl rfl) h2
  refine (walk W hx0 (bounds_i64 wf1) (bounds_i64 wf2)).mono fun e W' ⟨he, bel⟩ => ?_
  subst he
  exact ⟨_, rfl, _, _, _, [], _, [], hW', trodAll_mk1 (shut_bool Try.underlying4 _), (trodAll_cons_mk (Below.trod laidOut (by kernel_rfl) (of_decide_eq_true (by kernel_rfl)) k0 bel lt0) (trodAll_cons_mk (Below.trod laidOut (by kernel_rfl) (of_decide_eq_true (by kernel_rfl)) k1 bel lt1) (trodAll_cons_mk (Below.trod laidOut (by kernel_rfl) (of_decide_eq_true (by kernel_rfl)) k2 bel lt2) trodAll_mk0))), rfl, bel.frame _, fun h => by cases h⟩

set_option maxRecDepth 100000 in
theorem lifted (os : Os) (started : os.Started) (H : Type) (enc : TypeId × Value → H) :
    ReturnsInHanded {} Try.checked os 5 .any (Rows.linksWalksSpec.pre6 enc Try.prog Try.f5 Rows.linksWalksRow.domain false) (Rows.linksWalksSpec.post enc Try.prog Try.f5 false true false false) := by
  refine returnsInHanded_of_change_sized (C := Try.checked) own started (by kernel_rfl) Try.func5
    (ChangeSpec.witness6 (enc := enc) (C := Try.checked) false ⟨#[], #[.slice none 0 0, .int .i64 0, .int .i64 0], []⟩ 8 (by kernel_rfl) (by kernel_rfl) (by kernel_rfl) (by kernel_rfl)) ?_
  intro W base args ds gs before hval hW _ hsz _
  exact contract H enc W base args ds gs before hval hW hsz

/-- THE STATEMENT -/
theorem proved : Rows.LinksWalksSaid :=
  OpenClaim.holds_of_wide 5 Try.f5 rfl rfl rfl rfl rfl rfl rfl ⟨rfl, rfl, rfl, rfl, rfl⟩ rfl rfl rfl rfl rfl (by kernel_rfl) Try.func5 (by kernel_rfl)
    (of_decide_eq_true (by kernel_rfl)) (by unfold Func.isWrapper; rw [if_neg (of_decide_eq_false (by kernel_rfl))]; exact ⟨rfl, rfl⟩)
    (fun os started H enc _ => lifted os started H enc)
end Go.Proofs.Ytpdaiiakdlngjaa.linksWalks
