/- Any bytes are opened as a record file, or refused, exactly as the document says, for any bytes within the form's reach; they aren't kept. -/
import Derived.Test.YtcclcecjidlojaaDoorOpen
import Derived.Test.YtcclcecjidlojaaDoorCards
import Derived.Test.YtcclcecjidlojaaDoorTie
import Derived.Deep.DeepHandedRow
import Derived.Lib.LaidTab
import Derived.Test.YtcclcecjidlojaaDoorRfLaid
import Derived.Test.YtcclcecjidlojaaDoorRfSpeak
import Derived.Test.YtcclcecjidlojaaDoorRfD8
import Derived.Deep.QuietTactic
import Derived.BigQuiet
import Derived.Deep.Cut
namespace Go.Proofs.YtcclcecjidlojaaDoor.recfileOpens
open Go.ChangeShapes Go.WideShapes Go.ChangeAt Go.RowKit
open Go.ChangeMaps (open_string shut_string)
set_option linter.unusedVariables false
set_option linter.unusedSimpArgs false

set_option maxRecDepth 100000 in
set_option maxHeartbeats 1000000 in
theorem walk (w : World) (hT : TabW w) {A : Option Addr} {c : Nat} {b : List Nat} (hb : RB w w.heap.size A b) (hbc : b.length ≤ c) (hcm : c ≤ 140737488351232) :
    Calls Tryd.prog 5 #[.slice A b.length c] w fun e w' => e = .returned (.bool true) ∧ Below w.heap.size w w' := by
  have HT := Lib.hid hT
  have HRB := Lib.hid hb
  have HBS := Lib.hid hb.1
  have HBC := Lib.hid hbc
  have HBL : Hid (b.length ≤ 140737488355328) := Lib.hid (by omega)
  have HB2 : Hid (b.length ≤ 140737488351232) := Lib.hid (by omega)
  have HBM : Hid (b.length ≤ maxLen) := Lib.hid (by unfold maxLen; omega)
  have HCL := Lib.hid fun (w1 : World) (h1 : Below w.heap.size w w1) => lawClone_any A c w.heap.size b w1 (hb.below' h1 (Nat.le_refl _)) h1.size (by omega)
  clear hT hb hbc hcm
  by_cases hgood : Opens b
  case neg =>
    have HG := Lib.hid hgood
    obtain ⟨E, hE⟩ : ∃ E, E = openErr b := ⟨_, rfl⟩
    have HE := Lib.hid hE
    have e0 : (E != E) = false := by simp
    clear hgood hE
    go_enter Tryd.func5, Tryd.ntmps5
    go_wp2_with (first
      | (go_at_call 11; refine (speaks9_any w HT.out).mono ?_; rintro e w1 ⟨rfl, hb1⟩; have HB1 := Lib.hid hb1; clear hb1)
      | (go_at_call 18; refine (HCL.out w1 HB1.out).mono ?_; rintro e w2 ⟨v2, rfl, ho2, hb2⟩; have h2 := ((St.start Zf w).below HB1.out).newOb ho2 hb2; obtain ⟨A2, c2, rfl, hc2, -, -, -⟩ := ho2.form; have ho := openBad HG.out h2 h2.ob.reads.2.1 (HT.out.below h2.bel HT.out.1) HBL.out hc2; rw [← HE.out] at ho; have HO := Lib.hid ho; clear h2 ho2 hb2 hc2 ho)
      | (go_at_call 19; refine (HO.out).mono ?_; rintro e w3 ⟨rfl, h3⟩; have ho := refOpenNo HG.out h3 (h3.rb HRB.out (Nat.le_refl _)) h3.bel.size HBL.out HBC.out; rw [← HE.out] at ho; have HO2 := Lib.hid ho; clear h3 ho)
      | (go_at_call 20; refine (HO2.out).mono ?_; rintro e w4 ⟨rfl, h4⟩; have H4 := Lib.hid h4; clear h4)
      | (go_at_call 15; refine (same_yes A2 A _ c2 c _ _ b w4 H4.out.ob.reads.2.1 (H4.out.rb HRB.out (Nat.le_refl _)) rfl HBM.out).mono ?_; rintro e w5 ⟨rfl, q5, hw5⟩; have h5 := H4.out.drewN q5; rw [← hw5] at h5; have H5 := Lib.hid (spoil9 h5 rfl HB2.out); clear h5 hw5)
      | (go_at_call 21; refine (H5.out).mono ?_; rintro e w6 ⟨rfl, h6⟩; have H6 := Lib.hid h6.bel; clear h6))
    go_ret
    exact ⟨rfl, H6.out⟩
  case pos =>
    have hw0 := openErr_len hgood.1 hgood.2.1 hgood.2.2
    obtain ⟨hs1, hs2, -, -⟩ := hdErr_ok hgood.1 hgood.2.1
    obtain ⟨hd1, hd2⟩ := docOpen HBS.out hgood
    have hby := bytesOpen HBS.out hgood
    have hk8 := hd_lt HBS.out 4 1 (by decide) hgood.1
    have hv8 := hd_lt HBS.out 5 1 (by decide) hgood.1
    have HG := Lib.hid hgood
    have HOY := Lib.hid fun (w2 : World) (A2 : Option Addr) (c2 : Nat) (h2 : St Zf [ObA 5 (.slice A2 b.length c2) b] w w2) (hc2 : b.length ≤ c2) => lowOpen_yes hgood h2 h2.ob.reads.2.1 (HT.out.below h2.bel HT.out.1) HBL.out hc2
    have HRY := Lib.hid fun (l : List Ass) (_ : Stable (Sep l)) (w3 : World) (h3 : St Zf l w w3) => refOpenYes hgood h3 (h3.rb HRB.out (Nat.le_refl _)) h3.bel.size HBL.out HBC.out
    have hdl := docL_len (b.drop 16) (hd b 6 2) (hd b 8 4)
    obtain ⟨K, hK⟩ : ∃ x, x = hd b 4 1 := ⟨_, rfl⟩
    obtain ⟨V, hV⟩ : ∃ x, x = hd b 5 1 := ⟨_, rfl⟩
    obtain ⟨s, hs⟩ : ∃ x, x = hd b 6 2 := ⟨_, rfl⟩
    obtain ⟨n, hn⟩ : ∃ x, x = hd b 8 4 := ⟨_, rfl⟩
    obtain ⟨R, hR⟩ : ∃ x, x = b.drop 16 := ⟨_, rfl⟩
    rw [← hK, ← hV, ← hs, ← hn, ← hR] at HOY HRY hby
    rw [← hs, ← hn, ← hR] at hw0 hd1 hd2 hdl
    rw [← hs] at hs1 hs2
    rw [← hK] at hk8
    rw [← hV] at hv8
    obtain ⟨L, hL⟩ : ∃ L, L = docL R s n := ⟨_, rfl⟩
    rw [← hL] at HRY hd1 hd2 hdl
    have hlv := liveN_recB hd2 n (by omega)
    rw [hd1] at hlv
    have HW := Lib.hid hw0
    have HS := Lib.hid (And.intro hs1 hs2)
    have HLV : Hid (((liveN R s n : Nat) : Int) = ((liveL L n : Nat) : Int)) := Lib.hid (by rw [hlv])
    have HDL := Lib.hid hdl
    have HBY := Lib.hid hby
    have HKV : Hid (K < 256 ∧ V < 256) := Lib.hid ⟨by simpa using hk8, by simpa using hv8⟩
    clear hgood hw0 hs1 hs2 hd1 hd2 hby hk8 hv8 hK hV hs hn hR hL hlv hdl
    go_enter Tryd.func5, Tryd.ntmps5
    go_wp2_with (first
      | (go_at_call 11; refine (speaks9_any w HT.out).mono ?_; rintro e w1 ⟨rfl, hb1⟩; have HB1 := Lib.hid hb1; clear hb1)
      | (go_at_call 18; refine (HCL.out w1 HB1.out).mono ?_; rintro e w2 ⟨v2, rfl, ho2, hb2⟩; have h2 := ((St.start Zf w).below HB1.out).newOb ho2 hb2; obtain ⟨A2, c2, rfl, hc2, -, -, -⟩ := ho2.form; have HO := Lib.hid (HOY.out w2 A2 c2 h2 hc2); clear h2 ho2 hb2 hc2)
      | (go_at_call 19; refine (HO.out).mono ?_; rintro e w3 ⟨g, rfl, h3⟩; have HO2 := Lib.hid (HRY.out _ inferInstance w3 h3); clear h3 HO)
      | (go_at_call 20; refine (HO2.out).mono ?_; rintro e w4 ⟨m, rfl, h4⟩; have H4 := Lib.hid h4; clear h4 HO2)
      | (go_at_call 21; refine (spoil9 H5.out.bring2 rfl HB2.out).mono ?_; rintro e w6 ⟨rfl, h6⟩; have H6 := Lib.hid h6; clear h6 H5)
      | (go_at_call 14; refine (alike_yes H6.out.swap (Nat.lt_of_lt_of_le (by decide) HS.out.1) HW.out.len HW.out.few HDL.out HLV.out).mono ?_; rintro e w7 ⟨rfl, q7, hw7⟩; have h7 := H6.out.drewN q7; rw [← hw7] at h7; have hb := rfBytes_any h7.swap HS.out.1 HS.out.2 HW.out.len HW.out.few HKV.out.1 HKV.out.2 (HT.out.below h7.bel HT.out.1); rw [HBY.out] at hb; have HB7 := Lib.hid hb; clear h7 hw7 hb)
      | (go_at_call 16; refine (HB7.out).mono ?_; rintro e w8 ⟨x8, rfl, h8⟩; obtain ⟨A8, c8, rfl, -, -, -, -⟩ := h8.ob.form; have H8 := Lib.hid h8; clear h8 HB7)
      | (go_at_call 15; (with_reducible refine (same_yes A8 A _ c8 c _ _ b w8 H8.out.ob.reads.2.1 (H8.out.rb HRB.out (Nat.le_refl _)) rfl HBM.out).mono ?_); rintro e w9 ⟨rfl, q9, hw9⟩; have h9 := H8.out.drewN q9; rw [← hw9] at h9; have H9 := Lib.hid h9.bel; clear h9 hw9)
      | (go_at_call 15; refine (same_yes A2 A _ c2 c _ _ b w4 H4.out.bring2.ob.reads.2.1 (H4.out.rb HRB.out (Nat.le_refl _)) rfl HBM.out).mono ?_; rintro e w5 ⟨rfl, q5, hw5⟩; have h5 := H4.out.drewN q5; rw [← hw5] at h5; have H5 := Lib.hid h5; clear h5 hw5))
    go_ret
    exact ⟨rfl, H9.out⟩

/-! ### THE ROW's STEP -/
theorem own : ownKnob Tryd.prog.godebug = none := by kernel_rfl
theorem laidOut : laidOutB Tryd.prog = true := by kernel_rfl

set_option maxRecDepth 100000 in
set_option maxRecDepth 100000 in
theorem contract (H : Type) (enc : TypeId × Value → H) (W : World) (base : Nat) (args : Array Value) (ds gs : List (DataW H)) (before : List MemPlace)
    (hval0 : ∀ (j : Nat) t v, Tryd.f5.params[j]? = some t → args[j]? = some v → Value.okWide Tryd.prog W .any base t v)
    (hW : DataW.Whole enc Tryd.prog Tryd.f5.params.toList Rows.recfileOpensSpec.vars false W args.toList ds gs before)
    (hsz : (DataW.weightsEach Tryd.prog (Tryd.f5.params.toList ++ (OpenSpec.ofChange Rows.recfileOpensSpec).bare.plain.varTypes Tryd.prog) (ds ++ gs)).all (· ≤ reachBytes) = true) (hL : laidMetH Tryd.prog Rows.recfileOpensRow.laid W) :
    Calls Tryd.prog 5 args W fun e W' => ∃ v, e = .returned v ∧ Rows.recfileOpensSpec.post enc Tryd.prog Tryd.f5 false true false false W args v W' := by
  have hval : ∀ (j : Nat) t v, Tryd.f5.params[j]? = some t → args[j]? = some v → Value.okWide Tryd.prog W .any base t v := hval0
  have hW' := hW
  have hTab := Lib.hid (tabs_of hL)
  clear hL
  obtain ⟨p, q, hA0, hV, rfl, hfz, hnd⟩ := hW
  have hA : DataW.TrodAll enc Tryd.prog W 0 (fun _ => true) true Tryd.f5.params.toList args.toList ds p := hA0
  rw [Tryd.params5] at hA hval
  obtain ⟨v0, vs0, d0, ds0, p0, q0, hargs, rfl, rfl, h0, r0⟩ := trodAll_cons hA
  obtain ⟨rfl, rfl, rfl⟩ := trodAll_nil r0
  obtain rfl : args = #[v0] := by cases args; simp_all
  obtain ⟨rfl, rfl⟩ := trodVars_none hV
  have k0 := h0
  have lt0 : ∀ x ∈ p0, x.block < W.heap.size := by obtain ⟨m, hm⟩ := k0; exact DataW.trod_lt m _ _ _ hm
  have w0 := reach_at hsz (j := 0) rfl rfl
  clear hA0 hval0 hsz
  obtain ⟨A0, n0, c0, rfl⟩ := okWide_slice Tryd.underlying34 (hval 0 34 v0 rfl rfl)
  obtain ⟨b0, rfl, rb0, cb0, mb0⟩ := open_bytes Tryd.underlying34 Tryd.underlying5 (by kernel_rfl) (by kernel_rfl) w0 h0
  refine (walk W hTab.out rb0 cb0 mb0).mono fun e W' ⟨he, bel⟩ => ?_
  subst he
  exact ⟨_, rfl, _, _, _, [], _, [], hW', trodAll_mk1 (shut_bool Tryd.underlying4 _), (trodAll_cons_mk (Below.trod laidOut (by kernel_rfl) (of_decide_eq_true (by kernel_rfl)) k0 bel lt0) trodAll_mk0), rfl, bel.frame _, fun h => by cases h⟩

set_option maxRecDepth 100000 in
theorem laid_met (os : Os) : laidMet Tryd.prog Rows.recfileOpensRow.laid ((laidWorldN os).forCall (fun _ _ => 0) ⟨#[], #[.slice none 0 0], []⟩).memory :=
  laidMet_of_run3 8 (by kernel_rfl) (by kernel_rfl) (by kernel_rfl)
theorem reads (os : Os) {H : Type} (enc : TypeId × Value → H) : ∃ places, DataW.whole enc Tryd.prog ((laidWorldN os).forCall (fun _ _ => 0) ⟨#[], #[.slice none 0 0], []⟩).memory Tryd.f5.params.toList Rows.recfileOpensSpec.vars false (#[.slice none 0 0] : Array Value).toList 8 = some ([.nil], [], places) :=
  ⟨[], by kernel_rfl⟩

set_option maxRecDepth 100000 in
theorem lifted (os : Os) (started : os.Started) (H : Type) (enc : TypeId × Value → H) (F : Stop.Interp) :
    ReturnsInHanded {} Tryd.checked os 5 .any ((OpenSpec.ofChange Rows.recfileOpensSpec).preRow enc Tryd.prog Tryd.f5 Rows.recfileOpensRow.domain false Rows.recfileOpensRow.laid) (((OpenSpec.ofChange Rows.recfileOpensSpec).at F).post enc Tryd.prog Tryd.f5 false true false false) := by
  obtain ⟨places, hx⟩ := reads os enc
  refine returnsInHanded_of_row (C := Tryd.checked) (s := (OpenSpec.ofChange Rows.recfileOpensSpec)) own started (by kernel_rfl) Tryd.func5
    (witness_row_at (enc := enc) (C := Tryd.checked) false (laidWorldN os) #[.slice none 0 0] rfl (by kernel_rfl) (by kernel_rfl) (by kernel_rfl)
      (OpenSpec.preRow_of_cond 8 hx (by kernel_rfl) (fun k hk => by cases hk) (by kernel_rfl) (laid_met os))) ?_
  intro W base args ds gs before hval hW _ hcond hsz hL _ _
  exact contract H enc W base args ds gs before hval hW hsz hL

theorem said : Rows.RecfileOpensSaid :=
  OpenClaim.holds_of_cond 5 Tryd.f5 rfl rfl rfl rfl rfl rfl rfl ⟨rfl, rfl, rfl, rfl, rfl⟩ rfl rfl rfl rfl rfl (by kernel_rfl) Tryd.func5 (by kernel_rfl)
    (of_decide_eq_true (by kernel_rfl)) (by unfold Func.isWrapper; rw [if_neg (of_decide_eq_false (by kernel_rfl))]; exact ⟨rfl, rfl⟩)
    (fun os started H enc _ F => by rw [OpenClaim.pre_eq_preRow]; exact lifted os started H enc F)

theorem noStandIn : ∀ t ∈ ([34] : List TypeId), Tryd.prog.wantsStandIn t = false := by
  intro t ht
  simp only [List.mem_cons, List.not_mem_nil, or_false] at ht
  rcases ht with rfl
  · exact (show Tryd.prog.wantsStandIn 34 = false by kernel_rfl)
theorem plain (f : FuncId) (fn : Func) (hf : Tryd.pinned.checked.prog.funcNamed "satchel/satchellaw09.RecfileOpens" = some f) (hfn : Tryd.pinned.checked.prog.funcs[f]? = some fn) :
    false = Tryd.pinned.checked.prog.looks [] ∧ ∀ (j : Nat) t, fn.params[j]? = some t → Tryd.pinned.checked.prog.wantsStandIn t = false := by
  obtain rfl : f = 5 := Option.some.inj ((show Tryd.prog.funcNamed "satchel/satchellaw09.RecfileOpens" = some 5 by kernel_rfl).symm.trans hf) |>.symm
  obtain rfl : fn = Tryd.f5 := (Option.some.inj (Tryd.func5.symm.trans hfn)).symm
  refine ⟨by kernel_rfl, fun j t ht => ?_⟩
  rw [Tryd.params5] at ht
  exact noStandIn t (by simpa using Array.mem_of_getElem? ht)

/-- THE CARD -/
theorem proved : Rows.RecfileOpensCardSaid :=
  Claim7.holds_tied_plain_at .later [] _ _ _ _ said (fun _ h => by cases h) (by kernel_rfl) (fun _ h => by cases h) recfileOpens_row_tie rfl ⟨rfl, rfl⟩ (by kernel_rfl) rfl plain (by kernel_rfl)
end Go.Proofs.YtcclcecjidlojaaDoor.recfileOpens
