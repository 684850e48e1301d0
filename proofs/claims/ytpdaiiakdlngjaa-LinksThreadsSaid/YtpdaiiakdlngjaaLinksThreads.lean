/- Any order is laid as a chain, or refused, exactly as the document says, for any list and order within the form's reach; what is handed in stays. -/
import Derived.Test.YtpdaiiakdlngjaaOpen
import Derived.Test.YtpdaiiakdlngjaaRows
import Derived.Test.YtpdaiiakdlngjaaLkSpeak
import Derived.Test.YtpdaiiakdlngjaaLkOpen
import Derived.Test.YtpdaiiakdlngjaaLk9
import Derived.Deep.QuietTactic
import Derived.BigQuiet
import Derived.Deep.RegionHeld3
import Derived.Deep.Cut
namespace Go.Proofs.Ytpdaiiakdlngjaa.linksThreads
open Go.ChangeShapes Go.WideShapes Go.ChangeAt Go.RowKit
open Go.ChangeMaps (open_string shut_string)
set_option linter.unusedVariables false

set_option maxRecDepth 100000 in
set_option maxHeartbeats 1000000 in
theorem walk (w : World) {A : Option Addr} {L : List LkC} {c : Nat} (hx : RR lkc 7 w w.heap.size A L ∧ L.length * 56 ≤ 140737488351232) {n : Int} {A' : Option Addr} {O : List Int} {c' : Nat} (hy : RL ivl w w.heap.size A' O ∧ (∀ x ∈ O, inI x) ∧ O.length ≤ c' ∧ c' * 8 ≤ 140737488351232) :
    Calls Try.prog 4 #[.slice A L.length c, .agg #[.int .i64 n, .slice A' O.length c']] w fun e w' => e = .returned (.bool true) ∧ Below w.heap.size w w' := by
  obtain ⟨hr, hl⟩ := hx
  obtain ⟨hr', hin, hoc, hcm⟩ := hy
  obtain ⟨j0, hj, hy0, hy1, hy2⟩ := info_parts nint_info
  have hl2 : L.length * 56 ≤ 140737488355328 := by omega
  have hl3 : O.length ≤ 140737488355328 := by omega
  have hl4 : O.length * 8 ≤ 140737488355328 := by omega
  have HR := Lib.hid hr
  have HRO := Lib.hid hr'
  have HT0 := fun (A2 : Option Addr) (c2 : Nat) (A3 : Option Addr) (c3 : Nat) (W : World) (h : RR lkc 7 W W.heap.size A2 L) (h' : RL ivl W W.heap.size A3 O) => Thread_any A2 c2 W.heap.size L n A3 c3 W.heap.size O W h (Nat.le_refl _) hl2 h' (Nat.le_refl _) hl3 hin
  have HQ0 := fun (W : World) (h : RR lkc 7 W w.heap.size A L) (h' : RL ivl W w.heap.size A' O) (hW : w.heap.size ≤ W.heap.size) => refThread_any A c w.heap.size L n A' c' w.heap.size O W h hW hl2 h' hW hl3 hin
  unfold NewT at HT0 HQ0
  have htl : (thrP L n O).length ≤ L.length := by
    unfold thrP
    split
    · rw [thrK_len]; exact Nat.le_refl _
    · exact Nat.zero_le _
  obtain ⟨E, hE⟩ : ∃ E, E = chk L n O := ⟨_, rfl⟩
  obtain ⟨T, hT⟩ : ∃ T, T = thrP L n O := ⟨_, rfl⟩
  rw [← hE, ← hT] at HT0 HQ0
  rw [← hT] at htl
  have HTH := Lib.hid HT0
  have HQH := Lib.hid HQ0
  have HF : Hid (∀ w', St Zf [BlkA w.heap.size 31 #[.int .i64 n, .slice A' O.length c']] w w' → w'.cell? ⟨w.heap.size, 0, none⟩ = some (.int .i64 n) ∧ w'.cell? ⟨w.heap.size, 1, none⟩ = some (.slice A' O.length c')) :=
    Lib.hid fun w' h => ⟨by rw [h.blk.cell]; rfl, by rw [h.blk.cell]; rfl⟩
  clear hr hr' hin hoc hcm HT0 HQ0 hE hT
  go_enter Try.func4, Try.ntmps4
  go_upto_region 3 with (go_at_call 10; refine (lkSpeaks_any _).mono ?_; rintro e w1 ⟨rfl, hb1⟩)
  have h1 := ((St.start Zf w).newBlk 31 #[.int .i64 n, .slice A' O.length c']).below hb1
  obtain ⟨k0, k1⟩ := HF.out _ h1
  have HD0 := Lib.hid h1.drew
  have HD1 := Lib.hid (h1.drew.newNil ivl 3 rfl)
  clear h1 hb1
  go_region_held3 (fun w' => w'.cell? ⟨w.heap.size, 0, none⟩ = some (.int .i64 n) ∧ w'.cell? ⟨w.heap.size, 1, none⟩ = some (.slice A' O.length c')) (go_keep)
    ((first
      | (go_at_call 11; refine (copied_any A c w.heap.size L w1.drew (HD0.out.rr HR.out (Nat.le_refl _)) HD0.out.size hl2).mono ?_; rintro e w2 ⟨v2, rfl, ho2, hb2⟩; have h2 := Lib.hid (HD0.out.newOw ho2 hb2); obtain ⟨A2, c2, rfl, -, -, -⟩ := h2.out.owForm; have h2n := Lib.hid (h2.out.newNil ivl 3 rfl); obtain ⟨_, _⟩ := HF.out _ h2.out.drop; clear ho2 hb2 HD1)
      | (go_at_call 11; refine (copied_any A c w.heap.size L _ (HD1.out.rr HR.out (Nat.le_refl _)) HD1.out.size hl2).mono ?_; rintro e w2 ⟨v2, rfl, ho2, hb2⟩; have h2 := Lib.hid (HD1.out.newOw ho2 hb2); obtain ⟨A2, c2, rfl, -, -, -⟩ := h2.out.owForm; have h2n := Lib.hid h2.out.swap; obtain ⟨_, _⟩ := HF.out _ h2.out.drop.drop; clear ho2 hb2 HD0)
      | (refine step_append_list _ (by rfl) _ _ _ (by rfl) 0 3 j0 (.int .i64 0) 8 Try.underlying26 hj hy0 hy1 hy2 rfl _ [] (by rfl) h2n.out.ol A' c' w.heap.size O O.length rfl (by rfl) (h2n.out.rl HRO.out (Nat.le_refl _)) (by simpa using hl4) (by omega) (Nat.zero_le _) ?_; intro v3 w3 hown3 hg3 hat3; rw [List.nil_append] at hown3; have h3 := Lib.hid (h2n.out.grewOl hown3 hg3 hat3 (Nat.le_refl _)); obtain ⟨A3, c3, rfl, -, -, -, -⟩ := hown3.form; obtain ⟨_, _⟩ := HF.out _ h3.out.drop.drop; clear hown3 hg3 hat3)))
  all_goals
    have h33 := Lib.hid h3.out
    clear h2 h2n h3
    go_wp2_with (first
      | (go_at_call 16; refine (HTH.out A2 c2 A3 c3 w3 h33.out.swap.owReads.2.1 h33.out.ol.reads.2.1).mono ?_; rintro e w4 ⟨v4, rfl, ho4, hb4⟩; have h4 := Lib.hid (h33.out.newOw ho4 hb4); obtain ⟨A4, c4, rfl, -, -, -⟩ := h4.out.owForm; obtain ⟨_, _⟩ := HF.out _ h4.out.drop.drop.drop; clear ho4 hb4)
      | (go_at_call 17; refine (HQH.out w4 (h4.out.rr HR.out (Nat.le_refl _)) (h4.out.rl HRO.out (Nat.le_refl _)) h4.out.size).mono ?_; rintro e w5 ⟨v5, rfl, ho5, hb5⟩; have h5 := Lib.hid (h4.out.newOw ho5 hb5); obtain ⟨A5, c5, rfl, -, -, -⟩ := h5.out.owForm; obtain ⟨_, _⟩ := HF.out _ h5.out.drop.drop.drop.drop; clear ho5 hb5)
      | (go_at_call 15; (with_reducible refine (sameLk_yes A4 A5 T.length c4 c5 w5.heap.size w5.heap.size T w5 h5.out.swap.owReads.2.1 h5.out.owReads.2.1 rfl (by omega)).mono ?_); rintro e w6 ⟨rfl, n6, hw6⟩; have h6 := h5.out.drewN n6; rw [← hw6] at h6; have H6 := Lib.hid h6; obtain ⟨_, _⟩ := HF.out _ H6.out.drop.drop.drop.drop; clear hw6 h6)
      | (go_at_call 15; (with_reducible refine (sameLk_yes A2 A L.length c2 c w6.heap.size w.heap.size L w6 H6.out.bring3.owReads.2.1 (H6.out.rr HR.out (Nat.le_refl _)) rfl (by omega)).mono ?_); rintro e w7 ⟨rfl, n7, hw7⟩; have h7 := H6.out.drewN n7; rw [← hw7] at h7; have H7 := Lib.hid h7; obtain ⟨_, _⟩ := HF.out _ H7.out.drop.drop.drop.drop; clear hw7 h7)
      | (go_at_call 12; refine (sameInts_yes A3 A' O.length c3 c' w7.heap.size w.heap.size O w7 H7.out.bring2.ol.reads.2.1 (H7.out.rl HRO.out (Nat.le_refl _)) rfl (by unfold maxLen; omega)).mono ?_; rintro e w8 ⟨rfl, n8, hw8⟩; have h8 := H7.out.drewN n8; rw [← hw8] at h8; have H8 := Lib.hid h8.bel; clear hw8 h8))
    go_ret
    exact ⟨rfl, H8.out⟩

/-! ### THE ROW's STEP -/
theorem own : ownKnob Try.prog.godebug = none := by kernel_rfl
theorem laidOut : laidOutB Try.prog = true := by kernel_rfl

set_option maxRecDepth 100000 in
theorem contract (H : Type) (enc : TypeId × Value → H) (W : World) (base : Nat) (args : Array Value) (ds gs : List (DataW H)) (before : List MemPlace)
    (hval0 : ∀ (j : Nat) t v, Try.f4.params[j]? = some t → args[j]? = some v → Value.okWide Try.prog W .any base t v)
    (hW : DataW.Whole enc Try.prog Try.f4.params.toList Rows.linksThreadsSpec.vars false W args.toList ds gs before)
    (hsz : (DataW.weightsEach Try.prog (Try.f4.params.toList ++ (OpenSpec.ofChange Rows.linksThreadsSpec).bare.plain.varTypes Try.prog) (ds ++ gs)).all (· ≤ reachBytes) = true) :
    Calls Try.prog 4 args W fun e W' => ∃ v, e = .returned v ∧ Rows.linksThreadsSpec.post enc Try.prog Try.f4 false true false false W args v W' := by
  have hval : ∀ (j : Nat) t v, Try.f4.params[j]? = some t → args[j]? = some v → Value.okWide Try.prog W .any base t v := hval0
  have hW' := hW
  obtain ⟨p, q, hA0, hV, rfl, hfz, hnd⟩ := hW
  have hA : DataW.TrodAll enc Try.prog W 0 (fun _ => true) true Try.f4.params.toList args.toList ds p := hA0
  rw [Try.params4] at hA hval
  obtain ⟨v0, vs0, d0, ds0, p0, q0, hargs, rfl, rfl, h0, r0⟩ := trodAll_cons hA
  obtain ⟨v1, vs1, d1, ds1, p1, q1, rfl, rfl, rfl, h1, r1⟩ := trodAll_cons r0
  obtain ⟨rfl, rfl, rfl⟩ := trodAll_nil r1
  obtain rfl : args = #[v0, v1] := by cases args; simp_all
  obtain ⟨rfl, rfl⟩ := trodVars_none hV
  have k0 := h0
  have lt0 : ∀ x ∈ p0, x.block < W.heap.size := by obtain ⟨m, hm⟩ := k0; exact DataW.trod_lt m _ _ _ hm
  have w0 := reach_at hsz (j := 0) rfl rfl
  have k1 := h1
  have lt1 : ∀ x ∈ p1, x.block < W.heap.size := by obtain ⟨m, hm⟩ := k1; exact DataW.trod_lt m _ _ _ hm
  have w1 := reach_at hsz (j := 1) rfl rfl
  clear hA0 hval0 hsz
  obtain ⟨A0, L0, c0, rfl, hx0⟩ := open_links (hval 0 _ v0 rfl rfl) w0 h0 lt0
  obtain ⟨n1, A1, O1, c1, rfl, hx1⟩ := open_chain (hval 1 _ v1 rfl rfl) w1 h1 lt1
  refine (walk W hx0 hx1).mono fun e W' ⟨he, bel⟩ => ?_
  subst he
  exact ⟨_, rfl, _, _, _, [], _, [], hW', trodAll_mk1 (shut_bool Try.underlying4 _), (trodAll_cons_mk (Below.trod laidOut (by kernel_rfl) (of_decide_eq_true (by kernel_rfl)) k0 bel lt0) (trodAll_cons_mk (Below.trod laidOut (by kernel_rfl) (of_decide_eq_true (by kernel_rfl)) k1 bel lt1) trodAll_mk0)), rfl, bel.frame _, fun h => by cases h⟩

set_option maxRecDepth 100000 in
theorem lifted (os : Os) (started : os.Started) (H : Type) (enc : TypeId × Value → H) :
    ReturnsInHanded {} Try.checked os 4 .any (Rows.linksThreadsSpec.pre6 enc Try.prog Try.f4 Rows.linksThreadsRow.domain false) (Rows.linksThreadsSpec.post enc Try.prog Try.f4 false true false false) := by
  refine returnsInHanded_of_change_sized (C := Try.checked) own started (by kernel_rfl) Try.func4
    (ChangeSpec.witness6 (enc := enc) (C := Try.checked) false ⟨#[], #[.slice none 0 0, .agg #[.int .i64 0, .slice none 0 0]], []⟩ 8 (by kernel_rfl) (by kernel_rfl) (by kernel_rfl) (by kernel_rfl)) ?_
  intro W base args ds gs before hval hW _ hsz _
  exact contract H enc W base args ds gs before hval hW hsz

/-- THE STATEMENT -/
theorem proved : Rows.LinksThreadsSaid :=
  OpenClaim.holds_of_wide 4 Try.f4 rfl rfl rfl rfl rfl rfl rfl ⟨rfl, rfl, rfl, rfl, rfl⟩ rfl rfl rfl rfl rfl (by kernel_rfl) Try.func4 (by kernel_rfl)
    (of_decide_eq_true (by kernel_rfl)) (by unfold Func.isWrapper; rw [if_neg (of_decide_eq_false (by kernel_rfl))]; exact ⟨rfl, rfl⟩)
    (fun os started H enc _ => lifted os started H enc)
end Go.Proofs.Ytpdaiiakdlngjaa.linksThreads
