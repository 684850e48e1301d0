/- A chain that is laid is walked again in its order, from its head alone, for any list and order within the form's reach. -/
import Derived.Test.YtpdaiiakdlngjaaOpen
import Derived.Test.YtpdaiiakdlngjaaRows
import Derived.Test.YtpdaiiakdlngjaaLkSpeak
import Derived.Test.YtpdaiiakdlngjaaLkOpen
import Derived.Test.YtpdaiiakdlngjaaLkPure2
import Derived.Deep.QuietTactic
import Derived.BigQuiet
import Derived.Deep.RegionHeld3
import Derived.Deep.Cut
namespace Go.Proofs.Ytpdaiiakdlngjaa.linksThere
open Go.ChangeShapes Go.WideShapes Go.ChangeAt Go.RowKit
open Go.ChangeMaps (open_string shut_string)
set_option linter.unusedVariables false

set_option maxRecDepth 100000 in
set_option maxHeartbeats 1000000 in
theorem walk (w : World) {A : Option Addr} {L : List LkC} {c : Nat} (hx : RR lkc 7 w w.heap.size A L ∧ L.length * 56 ≤ 140737488351232) {n : Int} {A' : Option Addr} {O : List Int} {c' : Nat} (hy : RL ivl w w.heap.size A' O ∧ (∀ x ∈ O, inI x) ∧ O.length ≤ c' ∧ c' * 8 ≤ 140737488351232) :
    Calls Try.prog 6 #[.slice A L.length c, .agg #[.int .i64 n, .slice A' O.length c']] w fun e w' => e = .returned (.bool true) ∧ Below w.heap.size w w' := by
  obtain ⟨hr, hl⟩ := hx
  obtain ⟨hr', hin, hoc, hcm⟩ := hy
  obtain ⟨j0, hj, hy0, hy1, hy2⟩ := info_parts nint_info
  have hl2 : L.length * 56 ≤ 140737488355328 := by omega
  have hl3 : O.length ≤ 140737488355328 := by omega
  have hl4 : O.length * 8 ≤ 140737488355328 := by omega
  have HR := Lib.hid hr
  have HRO := Lib.hid hr'
  have HT0 := fun (A2 : Option Addr) (c2 : Nat) (A3 : Option Addr) (c3 : Nat) (W : World) (h : RR lkc 7 W W.heap.size A2 L) (h' : RL ivl W W.heap.size A3 O) => Thread_any A2 c2 W.heap.size L n A3 c3 W.heap.size O W h (Nat.le_refl _) hl2 h' (Nat.le_refl _) hl3 hin
  unfold NewT at HT0
  have hlaid := fun h : chk L n O = 0 => Laid.thr h
  have hunl := fun (h : chk L n O = 0) (i j : Nat) => chkP_unlike h (i := i) (j := j)
  have htl := thrK_len L n O O.length
  have hne : chk L n O ≠ 0 → 0 < O.length := fun h => by
    rcases Nat.eq_zero_or_pos O.length with h0 | h0
    · rw [List.length_eq_zero_iff] at h0
      subst h0
      exact absurd (chk_nil L n) h
    · exact h0
  have hT1 : chk L n O = 0 → thrP L n O = thrK L n O O.length := fun h => by unfold thrP; rw [if_pos h]
  have hT2 : chk L n O ≠ 0 → thrP L n O = [] := fun h => by unfold thrP; rw [if_neg h]
  obtain ⟨E, hE⟩ : ∃ E, E = chk L n O := ⟨_, rfl⟩
  obtain ⟨T, hT⟩ : ∃ T, T = thrP L n O := ⟨_, rfl⟩
  rw [← hE, ← hT] at HT0
  rw [← hE] at hlaid hunl hne hT1 hT2
  rw [← hT] at hT1 hT2
  have HTH := Lib.hid HT0
  have HLA := Lib.hid hlaid
  have HUN := Lib.hid hunl
  have HTL := Lib.hid htl
  have HNE := Lib.hid hne
  have HT1 := Lib.hid hT1
  have HT2 := Lib.hid hT2
  have HF : Hid (∀ w', St Zf [BlkA w.heap.size 31 #[.int .i64 n, .slice A' O.length c']] w w' → w'.cell? ⟨w.heap.size, 0, none⟩ = some (.int .i64 n) ∧ w'.cell? ⟨w.heap.size, 1, none⟩ = some (.slice A' O.length c')) :=
    Lib.hid fun w' h => ⟨by rw [h.blk.cell]; rfl, by rw [h.blk.cell]; rfl⟩
  clear hr hr' hin hoc hcm hl3 HT0 hlaid hunl htl hne hT1 hT2 hE hT
  go_enter Try.func6, Try.ntmps6
  go_upto_region 3 with (go_at_call 10; refine (lkSpeaks_any _).mono ?_; rintro e w1 ⟨rfl, hb1⟩)
  have h1 := ((St.start Zf w).newBlk 31 #[.int .i64 n, .slice A' O.length c']).below hb1
  obtain ⟨k0, k1⟩ := HF.out _ h1
  have HD0 := Lib.hid h1.drew
  have HD1 := Lib.hid (h1.drew.newNil ivl 3 rfl)
  clear h1 hb1
  go_region_held3 (fun w' => w'.cell? ⟨w.heap.size, 0, none⟩ = some (.int .i64 n) ∧ w'.cell? ⟨w.heap.size, 1, none⟩ = some (.slice A' O.length c')) (go_keep)
    ((first
      | (go_at_call 11; refine (copied_any A c w.heap.size L w1.drew (HD0.out.rr HR.out (Nat.le_refl _)) HD0.out.size hl2).mono ?_; rintro e w2 ⟨v2, rfl, ho2, hb2⟩; have h2 := Lib.hid (HD0.out.newOw ho2 hb2); obtain ⟨A2, c2, rfl, -, -, -⟩ := h2.out.owForm; have h2n := Lib.hid (h2.out.newNil ivl 3 rfl); obtain ⟨_, _⟩ := HF.out _ h2.out.drop; clear ho2 hb2 HD1)
      | (go_at_call 11; refine (copied_any A c w.heap.size L _ (HD1.out.rr HR.out (Nat.le_refl _)) HD1.out.size hl2).mono ?_; rintro e w2 ⟨v2, rfl, ho2, hb2⟩; have h2 := Lib.hid (HD1.out.newOw ho2 hb2); obtain ⟨A2, c2, rfl, -, -, -⟩ := h2.out.owForm; have h2n := Lib.hid h2.out.swap; obtain ⟨_, _⟩ := HF.out _ h2.out.drop.drop; clear ho2 hb2 HD0)
      | (refine step_append_list _ (by rfl) _ _ _ (by rfl) 0 3 j0 (.int .i64 0) 8 Try.underlying26 hj hy0 hy1 hy2 rfl _ [] (by rfl) h2n.out.ol A' c' w.heap.size O O.length rfl (by rfl) (h2n.out.rl HRO.out (Nat.le_refl _)) (by simpa using hl4) (by omega) (Nat.zero_le _) ?_; intro v3 w3 hown3 hg3 hat3; rw [List.nil_append] at hown3; have h3 := Lib.hid (h2n.out.grewOl hown3 hg3 hat3 (Nat.le_refl _)); obtain ⟨A3, c3, rfl, -, -, -, -⟩ := hown3.form; obtain ⟨_, _⟩ := HF.out _ h3.out.drop.drop; clear hown3 hg3 hat3)
      | (go_at_call 16; refine (HTH.out A2 c2 A3 c3 w3 h3.out.swap.owReads.2.1 h3.out.ol.reads.2.1).mono ?_; rintro e w4 ⟨v4, rfl, ho4, hb4⟩; have h4 := Lib.hid (h3.out.drop.drop.newOw ho4 hb4); obtain ⟨A4, c4, rfl, -, -, -⟩ := h4.out.owForm; obtain ⟨_, _⟩ := HF.out _ h4.out.drop; clear ho4 hb4)))
  all_goals
    clear h2 h2n h3
    by_cases hE : E = 0
    · subst hE
      have e0 : ((0 : Int) != 0) = false := by decide
      have hT := HT1.out rfl
      have hTl : T.length = L.length := by rw [hT]; exact HTL.out
      have hlay := HLA.out rfl
      rw [← hT] at hlay
      have hun := fun i j (a : i < j) (b : j < O.length) => HUN.out rfl i j a b
      have HW := Lib.hid (walkP_laid hlay hun)
      have HM := Lib.hid fun (k : Nat) (h0 : 0 < k) (hk : k < O.length) => walkP_mid hlay h0 hk
      have H4 := h4.out
      have hTm : T.length * 56 ≤ 140737488355328 := by rw [hTl]; exact hl2
      have hTl' := hTl
      rw [hTl] at H4 ⊢
      have H4' := Lib.hid H4
      have HTT := Lib.hid hTl
      clear hT hlay hun H4 h4 HLA HUN HT1 HT2 HNE HTL hTl
      go_wp2_with fail
      go_loopw [7, 41] (fun hd i wr => ∃ (k : Nat) (h0 : Int), k ≤ O.length ∧ i = .int .i64 k ∧ hd = .int .i64 h0 ∧ (k = 0 → h0 = -1) ∧ (0 < k → h0 = nthI O 0) ∧ St Zf [OwA lkc 7 46 (.slice A4 L.length c4) T, BlkA w.heap.size 31 #[.int .i64 n, .slice A' O.length c']] w wr) (fun _ i _ => O.length - (intOf i).toNat)
      case atStart => exact ⟨0, -1, Nat.zero_le _, rfl, rfl, fun _ => rfl, fun h => absurd h (by omega), H4'.out⟩
      case round =>
        obtain ⟨k, hd, hk, rfl, rfl, hd0, hd1, hst⟩ := hrel
        by_cases hlt : k < O.length
        · obtain ⟨b, off, hA, -, hcs⟩ := (hst.rl HRO.out (Nat.le_refl _)).allI (by omega)
          have hc := hcs k hlt
          have hc0 := hcs 0 (by omega)
          obtain ⟨q0, q1⟩ := HF.out _ hst.drop
          have HST := Lib.hid hst
          obtain ⟨y, hy⟩ : ∃ y, y = nthI O k := ⟨_, rfl⟩
          rw [← hy] at hc
          have HY := Lib.hid hy
          subst hA
          by_cases hk0 : k = 0
          · have f1 : ((k : Int) == 0) = true := by simp [hk0]
            have f2 : decide ((k : Int) = 0) = true := by simp [hk0]
            have HY0 : Hid (y = nthI O 0) := Lib.hid (by rw [hy, hk0])
            clear hcs hst hd0 hd1 hc0 hy hk0
            go_wp2_with fail
            go_roundw
            case rel => exact ⟨k + 1, y, by omega, by go_num, rfl, fun h => absurd h (by omega), fun _ => HY0.out, HST.out⟩
            case measure => simp [intOf]; omega
          · have f1 : ((k : Int) == 0) = false := beq_eq_false_iff_ne.2 (by omega)
            have f2 : decide ((k : Int) = 0) = false := decide_eq_false (by omega)
            have hw := Walk_any A4 c4 wr.heap.size T n y wr hst.owReads.2.1 (Nat.le_refl _) hTm
            rw [hTl', hy, HM.out k (by omega) hlt, ← hy] at hw
            have HWK := Lib.hid hw
            have hd2 := Lib.hid (hd1 (by omega))
            clear hcs hst hd0 hd1 hc0 hy hk0 hw
            go_wp2_with (go_at_call 18; refine (HWK.out).mono ?_; rintro e w5 ⟨v5, rfl, ho5, hb5⟩; have h5 := Lib.hid (HST.out.below hb5))
            go_roundw
            case rel => exact ⟨k + 1, hd, by omega, by go_num, rfl, fun h => absurd h (by omega), fun _ => hd2.out, h5.out⟩
            case measure => simp [intOf]; omega
        · obtain rfl : k = O.length := by omega
          have hat : atI O 0 = hd := by
            by_cases h0 : O.length = 0
            · rw [atI_end (by omega), hd0 h0]
            · rw [hd1 (by omega)]; exact atI_in (k := 0) (by omega)
          have hw := Walk_any A4 c4 wr.heap.size T n hd wr hst.owReads.2.1 (Nat.le_refl _) hTm
          rw [hTl', ← hat, HW.out, hat] at hw
          have HWK := Lib.hid hw
          obtain ⟨q0, q1⟩ := HF.out _ hst.drop
          have HST := Lib.hid hst
          clear hst hd0 hd1 hat hw
          go_wp2_with (first
            | (go_at_call 18; refine (HWK.out).mono ?_; rintro e w5 ⟨v5, rfl, ho5, hb5⟩; have h5 := HST.out.newOl ho5 hb5; obtain ⟨A5, c5, rfl, -, -, -, -⟩ := ho5.form; have H5 := Lib.hid h5; obtain ⟨_, _⟩ := HF.out _ h5.drop.drop; clear h5 ho5 hb5)
            | (go_at_call 12; refine (sameInts_yes A5 A' O.length c5 c' w5.heap.size w.heap.size O w5 H5.out.ol.reads.2.1 (H5.out.rl HRO.out (Nat.le_refl _)) rfl (by unfold maxLen; omega)).mono ?_; rintro e w6 ⟨rfl, n6, hw6⟩; have h6 := H5.out.drewN n6; rw [← hw6] at h6; have H6 := Lib.hid h6.bel; clear hw6 h6))
          go_ret
          exact ⟨rfl, H6.out⟩
    · have e0 : (E != 0) = true := by simp [hE]
      have hT := HT2.out hE
      have hne := HNE.out hE
      have f1 : decide ((0 : Int) < (O.length : Int)) = true := decide_eq_true (by omega)
      have f2 : decide (0 < O.length) = true := decide_eq_true hne
      subst hT
      clear hE hne
      go_wp2
      go_ret
      exact ⟨rfl, h4.out.bel⟩

/-! ### THE ROW's STEP -/
theorem own : ownKnob Try.prog.godebug = none := by kernel_rfl
theorem laidOut : laidOutB Try.prog = true := by kernel_rfl

set_option maxRecDepth 100000 in
theorem contract (H : Type) (enc : TypeId × Value → H) (W : World) (base : Nat) (args : Array Value) (ds gs : List (DataW H)) (before : List MemPlace)
    (hval0 : ∀ (j : Nat) t v, Try.f6.params[j]? = some t → args[j]? = some v → Value.okWide Try.prog W .any base t v)
    (hW : DataW.Whole enc Try.prog Try.f6.params.toList Rows.linksThereSpec.vars false W args.toList ds gs before)
    (hsz : (DataW.weightsEach Try.prog (Try.f6.params.toList ++ (OpenSpec.ofChange Rows.linksThereSpec).bare.plain.varTypes Try.prog) (ds ++ gs)).all (· ≤ reachBytes) = true) :
    Calls Try.prog 6 args W fun e W' => ∃ v, e = .returned v ∧ Rows.linksThereSpec.post enc Try.prog Try.f6 false true false false W args v W' := by
  have hval : ∀ (j : Nat) t v, Try.f6.params[j]? = some t → args[j]? = some v → Value.okWide Try.prog W .any base t v := hval0
  have hW' := hW
  obtain ⟨p, q, hA0, hV, rfl, hfz, hnd⟩ := hW
  have hA : DataW.TrodAll enc Try.prog W 0 (fun _ => true) true Try.f6.params.toList args.toList ds p := hA0
  rw [Try.params6] at hA hval
  obtain ⟨v0, vs0, d0, ds0, p0, q0, hargs, rfl, rfl, h0, r0⟩ := trodAll_cons hA
  obtain ⟨v1, vs1, d1, ds1, p1, q1, rfl, rfl, rfl, h1, r1⟩ := trodAll_cons r0
  obtain ⟨rfl, rfl, rfl⟩ := trodAll_nil r1
  obtain rfl : args = #[v0, v1] := by cases args; simp_all
  obtain ⟨rfl, rfl⟩ := trodVars_none hV
  have k0 := h0
  have lt0 : ∀ x ∈ p0, x.block < W.heap.size := by obtain ⟨m, hm⟩ := k0; exact DataW.trod_lt m _ _ _ hm
  have w0 := reach_at hsz (j := 0) rfl rfl
  have k1 := h1
  have lt1 : ∀ x ∈ p1, x.block < W.heap.size := by obtain ⟨m, hm⟩ := k1; exact DataW.trod_lt m _ _ _ hm
  have w1 := reach_at hsz (j := 1) rfl rfl
  clear hA0 hval0 hsz
  obtain ⟨A0, L0, c0, rfl, hx0⟩ := open_links (hval 0 _ v0 rfl rfl) w0 h0 lt0
  obtain ⟨n1, A1, O1, c1, rfl, hx1⟩ := open_chain (hval 1 _ v1 rfl rfl) w1 h1 lt1
  refine (walk W hx0 hx1).mono fun e W' ⟨he, bel⟩ => ?_
  subst he
  exact ⟨_, rfl, _, _, _, [], _, [], hW', trodAll_mk1 (shut_bool Try.underlying4 _), (trodAll_cons_mk (Below.trod laidOut (by kernel_rfl) (of_decide_eq_true (by kernel_rfl)) k0 bel lt0) (trodAll_cons_mk (Below.trod laidOut (by kernel_rfl) (of_decide_eq_true (by kernel_rfl)) k1 bel lt1) trodAll_mk0)), rfl, bel.frame _, fun h => by cases h⟩

set_option maxRecDepth 100000 in
theorem lifted (os : Os) (started : os.Started) (H : Type) (enc : TypeId × Value → H) :
    ReturnsInHanded {} Try.checked os 6 .any (Rows.linksThereSpec.pre6 enc Try.prog Try.f6 Rows.linksThereRow.domain false) (Rows.linksThereSpec.post enc Try.prog Try.f6 false true false false) := by
  refine returnsInHanded_of_change_sized (C := Try.checked) own started (by kernel_rfl) Try.func6
    (ChangeSpec.witness6 (enc := enc) (C := Try.checked) false ⟨#[], #[.slice none 0 0, .agg #[.int .i64 0, .slice none 0 0]], []⟩ 8 (by kernel_rfl) (by kernel_rfl) (by kernel_rfl) (by kernel_rfl)) ?_
  intro W base args ds gs before hval hW _ hsz _
  exact contract H enc W base args ds gs before hval hW hsz

/-- THE STATEMENT -/
theorem proved : Rows.LinksThereSaid :=
  OpenClaim.holds_of_wide 6 Try.f6 rfl rfl rfl rfl rfl rfl rfl ⟨rfl, rfl, rfl, rfl, rfl⟩ rfl rfl rfl rfl rfl (by kernel_rfl) Try.func6 (by kernel_rfl)
    (of_decide_eq_true (by kernel_rfl)) (by unfold Func.isWrapper; rw [if_neg (of_decide_eq_false (by kernel_rfl))]; exact ⟨rfl, rfl⟩)
    (fun os started H enc _ => lifted os started H enc)
end Go.Proofs.Ytpdaiiakdlngjaa.linksThere
