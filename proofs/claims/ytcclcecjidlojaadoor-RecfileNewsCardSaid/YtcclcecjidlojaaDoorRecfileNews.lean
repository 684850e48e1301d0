/- A record file of any kind, version and size is made, or refused, exactly as the document says. -/
import Derived.Test.YtcclcecjidlojaaDoorOpen
import Derived.Test.YtcclcecjidlojaaDoorCards
import Derived.Test.YtcclcecjidlojaaDoorTie
import Derived.Deep.DeepHandedRow
import Derived.Lib.LaidTab
import Derived.Test.YtcclcecjidlojaaDoorRfLaid
import Derived.Test.YtcclcecjidlojaaDoorRfSpeak
import Derived.Test.YtcclcecjidlojaaDoorRfD5
import Derived.Test.YtcclcecjidlojaaDoorRfThereA
import Derived.Deep.QuietTactic
import Derived.BigQuiet
import Derived.Deep.Cut
namespace Go.Proofs.YtcclcecjidlojaaDoor.recfileNews
open Go.ChangeShapes Go.WideShapes Go.ChangeAt Go.RowKit
open Go.ChangeMaps (open_string shut_string)
set_option linter.unusedVariables false
set_option linter.unusedSimpArgs false

theorem news_facts {K V S : Int} (h : newErr K V S = 0) : ∃ k v s : Nat, K = (k : Int) ∧ V = (v : Int) ∧ S = (s : Int) ∧ k < 256 ∧ v < 256 ∧ 2 ≤ s ∧ s ≤ 255 := by
  unfold newErr at h
  split at h
  · rename_i h1
    split at h
    · rename_i h2
      simp only [Bool.and_eq_true, decide_eq_true_eq] at h1 h2
      exact ⟨K.toNat, V.toNat, S.toNat, by omega, by omega, by omega, by omega, by omega, by omega, by omega⟩
    · exact absurd h (by decide)
  · exact absurd h (by decide)
theorem rfBytes_len0 (k v s : Nat) : (rfBytes k v s 0 []).length = 16 := by rw [rfBytes_len]; rfl
set_option maxRecDepth 100000 in
set_option maxHeartbeats 1000000 in
theorem walk (w : World) (hT : TabW w) {K V S : Int} (hx : (-9223372036854775808 ≤ K ∧ K ≤ 9223372036854775807) ∧ (-9223372036854775808 ≤ V ∧ V ≤ 9223372036854775807) ∧ (-9223372036854775808 ≤ S ∧ S ≤ 9223372036854775807)) :
    Calls Tryd.prog 4 #[.agg #[.int .i64 K, .int .i64 V, .int .i64 S]] w fun e w' => e = .returned (.bool true) ∧ Below w.heap.size w w' := by
  have HT := Lib.hid hT
  have h1 := (St.start Zf w).newBlk 24 #[.int .i64 K, .int .i64 V, .int .i64 S]
  have H1 := Lib.hid h1
  have HT1 := Lib.hid (HT.out.below h1.bel HT.out.1)
  clear hT hx h1
  by_cases hok : newErr K V S = 0
  case neg =>
    have HE := Lib.hid hok
    clear hok
    go_enter Tryd.func4, Tryd.ntmps4
    go_wp2_with (first
      | (go_at_call 11; refine (speaks9_any _ HT1.out).mono ?_; rintro e w1 ⟨rfl, hb1⟩; have h2 := H1.out.below hb1; have H2 := Lib.hid h2; obtain ⟨p0, p1, p2⟩ := headCells h2; clear hb1 h2)
      | (go_at_call 12; (with_reducible refine (rfNew_no K V S HE.out).mono ?_); rintro e w3 ⟨rfl, rfl⟩)
      | (go_at_call 13; (with_reducible refine (refNew_no K V S HE.out).mono ?_); rintro e w3 ⟨rfl, rfl⟩))
    go_ret
    exact ⟨rfl, H2.out.bel⟩
  case pos =>
    have HE := Lib.hid hok
    obtain ⟨k, v, s, hk, hv, hs, f⟩ := news_facts hok
    have HF := Lib.hid f
    clear hok f
    subst hk hv hs
    obtain ⟨F, hF⟩ : ∃ F, F = rfBytes k v s 0 [] := ⟨_, rfl⟩
    have HFF := Lib.hid hF
    have HFL : Hid (F.length = 16) := Lib.hid (by rw [hF]; exact rfBytes_len0 k v s)
    clear hF
    go_enter Tryd.func4, Tryd.ntmps4
    go_wp2_with (first
      | (go_at_call 11; refine (speaks9_any _ HT1.out).mono ?_; rintro e w1 ⟨rfl, hb1⟩; have h2 := H1.out.below hb1; have H2 := Lib.hid h2; obtain ⟨p0, p1, p2⟩ := headCells h2; clear hb1 h2)
      | (go_at_call 12; (with_reducible refine (rfNew_ok H2.out (k : Int) (v : Int) (s : Int) HE.out).mono ?_); rintro e w3 ⟨g, rfl, h3⟩; have H3 := Lib.hid h3; obtain ⟨p3, p4, p5⟩ := headCells h3.swap; clear h3)
      | (go_at_call 13; (with_reducible refine (refNew_ok H3.out (k : Int) (v : Int) (s : Int) HE.out).mono ?_); rintro e w4 ⟨m, rfl, h4⟩; have H4 := Lib.hid h4; clear h4)
      | (go_at_call 14; refine (alike_yes (n := 0) H4.out.swap (by have := HF.out; omega) (by simp) (by decide) rfl rfl).mono ?_; rintro e w5 ⟨rfl, q, hq⟩; have h5 := H4.out.drewN q; rw [← hq] at h5; have hb := rfBytes_any (n := 0) h5.swap HF.out.2.2.1 HF.out.2.2.2 (by simp) (by decide) HF.out.1 HF.out.2.1 (HT.out.below h5.bel HT.out.1); rw [← HFF.out] at hb; have HB := Lib.hid hb; clear hq h5 hb)
      | (go_at_call 16; (with_reducible refine (HB.out).mono ?_); rintro e w6 ⟨x6, rfl, h6⟩; obtain ⟨A6, c6, rfl, -, -, -, -⟩ := h6.ob.form; have H6 := Lib.hid h6; have hb := refBytes_any h6.bring2 HF.out.2.2.1 HF.out.2.2.2 HF.out.1 HF.out.2.1 (by decide) (fun r hr => by cases hr); rw [show rfBytes k v s ([] : List Rc).length (recB []) = F from HFF.out.symm] at hb; have HB2 := Lib.hid hb; clear h6 hb)
      | (go_at_call 17; refine (HB2.out).mono ?_; rintro e w7 ⟨x7, rfl, h7⟩; obtain ⟨A7, c7, rfl, -, -, -, -⟩ := h7.ob.form; have H7 := Lib.hid h7; clear h7)
      | (go_at_call 15; refine (same_yes A6 A7 _ c6 c7 _ _ F w7 H7.out.bring2.ob.reads.2.1 H7.out.ob.reads.2.1 rfl (by rw [HFL.out]; decide)).mono ?_; rintro e w8 ⟨rfl, q8, hw8⟩; have h8 := H7.out.drewN q8; rw [← hw8] at h8; have H8 := Lib.hid h8.bel; clear hw8 h8))
    go_ret
    exact ⟨rfl, H8.out⟩

/-! ### THE ROW's STEP -/
theorem own : ownKnob Tryd.prog.godebug = none := by kernel_rfl
theorem laidOut : laidOutB Tryd.prog = true := by kernel_rfl

set_option maxRecDepth 100000 in
set_option maxRecDepth 100000 in
theorem contract (H : Type) (enc : TypeId × Value → H) (W : World) (base : Nat) (args : Array Value) (ds gs : List (DataW H)) (before : List MemPlace)
    (hval0 : ∀ (j : Nat) t v, Tryd.f4.params[j]? = some t → args[j]? = some v → Value.okWide Tryd.prog W .any base t v)
    (hW : DataW.Whole enc Tryd.prog Tryd.f4.params.toList Rows.recfileNewsSpec.vars false W args.toList ds gs before)
    (hsz : (DataW.weightsEach Tryd.prog (Tryd.f4.params.toList ++ (OpenSpec.ofChange Rows.recfileNewsSpec).bare.plain.varTypes Tryd.prog) (ds ++ gs)).all (· ≤ reachBytes) = true) (hL : laidMetH Tryd.prog Rows.recfileNewsRow.laid W) :
    Calls Tryd.prog 4 args W fun e W' => ∃ v, e = .returned v ∧ Rows.recfileNewsSpec.post enc Tryd.prog Tryd.f4 false true false false W args v W' := by
  have hval : ∀ (j : Nat) t v, Tryd.f4.params[j]? = some t → args[j]? = some v → Value.okWide Tryd.prog W .any base t v := hval0
  have hW' := hW
  have hTab := Lib.hid (tabs_of hL)
  clear hL
  obtain ⟨p, q, hA0, hV, rfl, hfz, hnd⟩ := hW
  have hA : DataW.TrodAll enc Tryd.prog W 0 (fun _ => true) true Tryd.f4.params.toList args.toList ds p := hA0
  rw [Tryd.params4] at hA hval
  obtain ⟨v0, vs0, d0, ds0, p0, q0, hargs, rfl, rfl, h0, r0⟩ := trodAll_cons hA
  obtain ⟨rfl, rfl, rfl⟩ := trodAll_nil r0
  obtain rfl : args = #[v0] := by cases args; simp_all
  obtain ⟨rfl, rfl⟩ := trodVars_none hV
  have k0 := h0
  have lt0 : ∀ x ∈ p0, x.block < W.heap.size := by obtain ⟨m, hm⟩ := k0; exact DataW.trod_lt m _ _ _ hm
  have w0 := reach_at hsz (j := 0) rfl rfl
  clear hA0 hval0 hsz
  obtain ⟨K0, V0, S0, rfl, hx0⟩ := open_head (hval 0 _ v0 rfl rfl) w0 h0 lt0
  refine (walk W hTab.out hx0).mono fun e W' ⟨he, bel⟩ => ?_
  subst he
  exact ⟨_, rfl, _, _, _, [], _, [], hW', trodAll_mk1 (shut_bool Tryd.underlying4 _), (trodAll_cons_mk (Below.trod laidOut (by kernel_rfl) (of_decide_eq_true (by kernel_rfl)) k0 bel lt0) trodAll_mk0), rfl, bel.frame _, fun h => by cases h⟩

set_option maxRecDepth 100000 in
theorem laid_met (os : Os) : laidMet Tryd.prog Rows.recfileNewsRow.laid ((laidWorldN os).forCall (fun _ _ => 0) ⟨#[], #[.agg #[.int .i64 0, .int .i64 0, .int .i64 0]], []⟩).memory :=
  laidMet_of_run3 8 (by kernel_rfl) (by kernel_rfl) (by kernel_rfl)
theorem reads (os : Os) {H : Type} (enc : TypeId × Value → H) : ∃ places, DataW.whole enc Tryd.prog ((laidWorldN os).forCall (fun _ _ => 0) ⟨#[], #[.agg #[.int .i64 0, .int .i64 0, .int .i64 0]], []⟩).memory Tryd.f4.params.toList Rows.recfileNewsSpec.vars false (#[.agg #[.int .i64 0, .int .i64 0, .int .i64 0]] : Array Value).toList 8 = some ([.agg [.lit (.int .i64 0), .lit (.int .i64 0), .lit (.int .i64 0)]], [], places) :=
  ⟨[], by kernel_rfl⟩

set_option maxRecDepth 100000 in
theorem lifted (os : Os) (started : os.Started) (H : Type) (enc : TypeId × Value → H) (F : Stop.Interp) :
    ReturnsInHanded {} Tryd.checked os 4 .any ((OpenSpec.ofChange Rows.recfileNewsSpec).preRow enc Tryd.prog Tryd.f4 Rows.recfileNewsRow.domain false Rows.recfileNewsRow.laid) (((OpenSpec.ofChange Rows.recfileNewsSpec).at F).post enc Tryd.prog Tryd.f4 false true false false) := by
  obtain ⟨places, hx⟩ := reads os enc
  refine returnsInHanded_of_row (C := Tryd.checked) (s := (OpenSpec.ofChange Rows.recfileNewsSpec)) own started (by kernel_rfl) Tryd.func4
    (witness_row_at (enc := enc) (C := Tryd.checked) false (laidWorldN os) #[.agg #[.int .i64 0, .int .i64 0, .int .i64 0]] rfl (by kernel_rfl) (by kernel_rfl) (by kernel_rfl)
      (OpenSpec.preRow_of_cond 8 hx (by kernel_rfl) (fun k hk => by cases hk) (by kernel_rfl) (laid_met os))) ?_
  intro W base args ds gs before hval hW _ hcond hsz hL _ _
  exact contract H enc W base args ds gs before hval hW hsz hL

theorem said : Rows.RecfileNewsSaid :=
  OpenClaim.holds_of_cond 4 Tryd.f4 rfl rfl rfl rfl rfl rfl rfl ⟨rfl, rfl, rfl, rfl, rfl⟩ rfl rfl rfl rfl rfl (by kernel_rfl) Tryd.func4 (by kernel_rfl)
    (of_decide_eq_true (by kernel_rfl)) (by unfold Func.isWrapper; rw [if_neg (of_decide_eq_false (by kernel_rfl))]; exact ⟨rfl, rfl⟩)
    (fun os started H enc _ F => by rw [OpenClaim.pre_eq_preRow]; exact lifted os started H enc F)

theorem noStandIn : ∀ t ∈ ([24] : List TypeId), Tryd.prog.wantsStandIn t = false := by
  intro t ht
  simp only [List.mem_cons, List.not_mem_nil, or_false] at ht
  rcases ht with rfl
  · exact (show Tryd.prog.wantsStandIn 24 = false by kernel_rfl)
theorem plain (f : FuncId) (fn : Func) (hf : Tryd.pinned.checked.prog.funcNamed "satchel/satchellaw09.RecfileNews" = some f) (hfn : Tryd.pinned.checked.prog.funcs[f]? = some fn) :
    false = Tryd.pinned.checked.prog.looks [] ∧ ∀ (j : Nat) t, fn.params[j]? = some t → Tryd.pinned.checked.prog.wantsStandIn t = false := by
  obtain rfl : f = 4 := Option.some.inj ((show Tryd.prog.funcNamed "satchel/satchellaw09.RecfileNews" = some 4 by kernel_rfl).symm.trans hf) |>.symm
  obtain rfl : fn = Tryd.f4 := (Option.some.inj (Tryd.func4.symm.trans hfn)).symm
  refine ⟨by kernel_rfl, fun j t ht => ?_⟩
  rw [Tryd.params4] at ht
  exact noStandIn t (by simpa using Array.mem_of_getElem? ht)

/-- THE CARD -/
theorem proved : Rows.RecfileNewsCardSaid :=
  Claim7.holds_tied_plain_at .later [] _ _ _ _ said (fun _ h => by cases h) (by kernel_rfl) (fun _ h => by cases h) recfileNews_row_tie rfl ⟨rfl, rfl⟩ (by kernel_rfl) rfl plain (by kernel_rfl)
end Go.Proofs.YtcclcecjidlojaaDoor.recfileNews
