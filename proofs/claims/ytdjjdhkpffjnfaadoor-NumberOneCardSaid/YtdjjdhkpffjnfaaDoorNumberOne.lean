/- For every text: a whole number that is read has just that form, so has a float, and no text is both. The library's tables and errors stand as the program's text lays them (the card ties them). -/
import Derived.Test.YtdjjdhkpffjnfaaDoorOpen
import Derived.Test.YtdjjdhkpffjnfaaDoorCards
import Derived.Test.YtdjjdhkpffjnfaaDoorTie
import Derived.Deep.DeepHandedRow
import Derived.Lib.LaidTab
import Derived.Test.YtdjjdhkpffjnfaaDoorNumLaid
import Derived.Test.YtdjjdhkpffjnfaaDoorNumRef2
namespace Go.Proofs.YtdjjdhkpffjnfaaDoor.numberOne
open Go.ChangeShapes Go.WideShapes Go.ChangeAt Go.RowKit
open Go.ChangeMaps (open_string shut_string)
set_option linter.unusedVariables false

theorem not_both {l : List UInt8} {v : Nat} (h1 : (parseI l).2 = 0) (h2 : ReadF l v 0) : False := by
  have hi := (itoa_parseI (l := l) (n := (parseI l).1) (by rw [← h1])).1
  rcases h2 with ⟨_, hc, hf⟩ | ⟨h, _⟩
  · have key : ∀ m, magT m ≠ Lib.itoa (parseI l).1 ∧ magT m ≠ Lib.decDigits (parseI l).1.natAbs := fun m => by
      obtain ⟨r, hr, _⟩ := magT_head m
      have hd : ∀ k, Lib.decDigits k ≠ 48 :: 120 :: r := fun k he => by
        have := dd_all k
        rw [he] at this
        simp [isDig] at this
      rw [hr]
      refine ⟨fun he => ?_, fun he => hd _ he.symm⟩
      by_cases hn : (parseI l).1 < 0
      · rw [itoa_neg hn] at he; injection he with he _; exact absurd he (by decide)
      · rw [itoa_nn (by omega)] at he; exact hd _ he.symm
    by_cases hnan : 9218868437227405312 < v % 9223372036854775808
    · rw [formF_nan hnan, ← hi] at hf
      by_cases hn : (parseI l).1 < 0
      · rw [itoa_neg hn] at hf; injection hf with hf _; exact absurd hf (by decide)
      · rw [itoa_nn (by omega)] at hf
        have := dd_all (parseI l).1.toNat
        rw [← hf] at this
        exact absurd this (by decide)
    · by_cases hneg : 9223372036854775808 ≤ v
      · rw [formF_neg hnan hneg, ← hi] at hf
        by_cases hn : (parseI l).1 < 0
        · rw [itoa_neg hn] at hf; injection hf with _ hf; exact (key _).2 hf
        · rw [itoa_nn (by omega)] at hf
          have := dd_all (parseI l).1.toNat
          rw [← hf] at this
          simp [isDig] at this
      · rw [formF_pos hnan hneg, ← hi] at hf
        exact (key _).1 hf
  · cases h
set_option maxRecDepth 100000 in
set_option maxHeartbeats 1000000 in
theorem walk (w : World) (hT : Tabs w) {s : ByteArray} (hs : s.size ≤ 140737488355328) : Calls Tryd.prog 9 #[.string s] w fun e w' => e = .returned (.bool true) ∧ Below w.heap.size w w' := by
  have HS := Lib.hid (nspeaks w hT)
  have HF : Hid (∀ w', Tabs w' → Calls Tryd.prog 15 #[.string s] w' fun e w'' => e = .returned (.tuple #[.int .i64 (parseI s.data.toList).1, .int .i64 (parseI s.data.toList).2]) ∧ Below w'.heap.size w' w'') := Lib.hid fun w' h => ParseInt_any s w' h hs
  have HG : Hid (∀ w', Tabs w' → Calls Tryd.prog 19 #[.string s] w' (PF s.data.toList w')) := Lib.hid fun w' h => ParseFloat_any s w' h hs
  have HT := Lib.hid hT
  have hpe := parseI_err s.data.toList
  have hpb := parseI_bd s.data.toList
  have HI := Lib.hid fun n => @itoa_parseI s.data.toList n
  have HNB := Lib.hid fun v => @not_both s.data.toList v
  obtain ⟨n, hn⟩ : ∃ n, n = (parseI s.data.toList).1 := ⟨_, rfl⟩
  obtain ⟨f, hf⟩ : ∃ f, f = (parseI s.data.toList).2 := ⟨_, rfl⟩
  rw [← hn, ← hf] at HF
  have hpair : parseI s.data.toList = (n, f) := by rw [hn, hf]
  have hf0 : f = 0 ∨ f = 50 ∨ f = 51 := by rw [hf]; omega
  have HPR := Lib.hid hpair
  have HFI : Hid (∀ w', Tabs w' → Calls Tryd.prog 13 #[.int .i64 n] w' fun e w'' => e = .returned (.string ⟨(Lib.itoa n).toArray⟩) ∧ Below w'.heap.size w' w'') := Lib.hid fun w' h => FormatInt_any n w' h (by omega) (by omega)
  have HFF : Hid (∀ v w', v < 18446744073709551616 → Tabs w' → Calls Tryd.prog 17 #[.int .u64 ((v : Nat) : Int)] w' fun e' w'' => e' = .returned (.string ⟨(formF v).toArray⟩) ∧ Below w'.heap.size w' w'') := Lib.hid fun v w' hv hT => FormatFloat_any v w' hT hv
  have key : Hid (∀ W, Below w.heap.size w W → ∀ v c, ReadF s.data.toList v c → (c = 0 ∧ v < 18446744073709551616 ∧ formF v = s.data.toList ∧ f ≠ 0) ∨ c = 52) := Lib.hid fun W _ v c h => by
    rcases h with ⟨rfl, hc, hfv⟩ | ⟨rfl, _⟩
    · exact .inl ⟨rfl, hc.1, hfv, fun h0 => HNB.out v (by rw [hpair]; exact h0) (.inl ⟨rfl, hc, hfv⟩)⟩
    · exact .inr rfl
  clear hT hn hf hs hpe hpb hpair
  by_cases hz : f = 0
  · subst hz
    have hit : Lib.itoa n = s.data.toList := (HI.out n HPR.out).1
    obtain ⟨S, hS⟩ : ∃ S : ByteArray, S = ⟨(Lib.itoa n).toArray⟩ := ⟨_, rfl⟩
    have e1 : (S.toList == s.toList) = true := by rw [Lib.toList_data, Lib.toList_data, hS, hit]; simp
    rw [← hS] at HFI
    clear hS hit hf0
    go_enter Tryd.func9, Tryd.ntmps9
    go_wp2_with fail
    refine HS.out.mono ?_
    rintro e w1 ⟨rfl, hb1⟩
    have HB1 := Lib.hid hb1
    clear hb1
    go_wp2_with fail
    refine (HF.out _ (HT.out.below HB1.out (Nat.le_refl _))).mono ?_
    rintro e w2 ⟨rfl, hb2⟩
    have HB2 := Lib.hid (HB1.out.trans (hb2.mono HB1.out.size))
    clear hb2
    go_wp2_with fail
    refine (HFI.out _ (HT.out.below HB2.out (Nat.le_refl _))).mono ?_
    rintro e w3 ⟨rfl, hb3⟩
    have HB3 := Lib.hid (HB2.out.trans (hb3.mono HB2.out.size))
    clear hb3
    go_wp2_with fail
    refine (HG.out _ (HT.out.below HB3.out (Nat.le_refl _))).mono ?_
    rintro e w4 ⟨v, c, rfl, hr, hb4⟩
    have HB4 := Lib.hid (HB3.out.trans (hb4.mono HB3.out.size))
    clear hb4
    rcases key.out _ HB4.out v c hr with ⟨_, _, _, h⟩ | rfl
    · exact absurd rfl h
    · clear hr
      go_wp2
      go_ret
      exact ⟨rfl, HB4.out⟩
  · have hz1 : (f == 0) = false := by rw [beq_eq_false_iff_ne]; exact hz
    have hz2 : (f != 0) = true := by rw [bne_iff_ne]; exact hz
    clear hf0 hz
    go_enter Tryd.func9, Tryd.ntmps9
    go_wp2_with fail
    refine HS.out.mono ?_
    rintro e w1 ⟨rfl, hb1⟩
    have HB1 := Lib.hid hb1
    clear hb1
    go_wp2_with fail
    refine (HF.out _ (HT.out.below HB1.out (Nat.le_refl _))).mono ?_
    rintro e w2 ⟨rfl, hb2⟩
    have HB2 := Lib.hid (HB1.out.trans (hb2.mono HB1.out.size))
    clear hb2
    go_wp2_with fail
    refine (HG.out _ (HT.out.below HB2.out (Nat.le_refl _))).mono ?_
    rintro e w4 ⟨v, c, rfl, hr, hb4⟩
    have HB4 := Lib.hid (HB2.out.trans (hb4.mono HB2.out.size))
    clear hb4
    rcases key.out _ HB4.out v c hr with ⟨rfl, hv, hfv, _⟩ | rfl
    · clear hr
      obtain ⟨S, hS⟩ : ∃ S : ByteArray, S = ⟨(formF v).toArray⟩ := ⟨_, rfl⟩
      have e1 : (S.toList == s.toList) = true := by rw [Lib.toList_data, Lib.toList_data, hS, hfv]; simp
      have HFv := Lib.hid (HFF.out v _ hv (HT.out.below HB4.out (Nat.le_refl _)))
      rw [← hS] at HFv
      clear hS hfv hv
      go_wp2_with fail
      refine HFv.out.mono ?_
      rintro e w5 ⟨rfl, hb5⟩
      have HB5 := Lib.hid (HB4.out.trans (hb5.mono HB4.out.size))
      clear hb5
      go_wp2
      go_ret
      exact ⟨rfl, HB5.out⟩
    · clear hr
      go_wp2
      go_ret
      exact ⟨rfl, HB4.out⟩

/-! ### THE ROW's STEP -/
theorem own : ownKnob Tryd.prog.godebug = none := by kernel_rfl
theorem laidOut : laidOutB Tryd.prog = true := by kernel_rfl

set_option maxRecDepth 100000 in
theorem contract (H : Type) (enc : TypeId × Value → H) (W : World) (base : Nat) (args : Array Value) (ds gs : List (DataW H)) (before : List MemPlace)
    (hval0 : ∀ (j : Nat) t v, Tryd.f9.params[j]? = some t → args[j]? = some v → Value.okWide Tryd.prog W .any base t v)
    (hW : DataW.Whole enc Tryd.prog Tryd.f9.params.toList Rows.numberOneSpec.vars false W args.toList ds gs before)
    (hsz : (DataW.weightsEach Tryd.prog (Tryd.f9.params.toList ++ (OpenSpec.ofChange Rows.numberOneSpec).bare.plain.varTypes Tryd.prog) (ds ++ gs)).all (· ≤ reachBytes) = true) (hL : laidMetH Tryd.prog Rows.numberOneRow.laid W) :
    Calls Tryd.prog 9 args W fun e W' => ∃ v, e = .returned v ∧ Rows.numberOneSpec.post enc Tryd.prog Tryd.f9 false true false false W args v W' := by
  have hval : ∀ (j : Nat) t v, Tryd.f9.params[j]? = some t → args[j]? = some v → Value.okWide Tryd.prog W .any base t v := hval0
  have hW' := hW
  have hTab := Lib.hid (tabs_of hL)
  clear hL
  obtain ⟨p, q, hA0, hV, rfl, hfz, hnd⟩ := hW
  have hA : DataW.TrodAll enc Tryd.prog W 0 (fun _ => true) true Tryd.f9.params.toList args.toList ds p := hA0
  rw [Tryd.params9] at hA hval
  obtain ⟨v0, vs0, d0, ds0, p0, q0, hargs, rfl, rfl, h0, r0⟩ := trodAll_cons hA
  obtain ⟨rfl, rfl, rfl⟩ := trodAll_nil r0
  obtain rfl : args = #[v0] := by cases args; simp_all
  obtain ⟨rfl, rfl⟩ := trodVars_none hV
  have k0 := h0
  have lt0 : ∀ x ∈ p0, x.block < W.heap.size := by obtain ⟨m, hm⟩ := k0; exact DataW.trod_lt m _ _ _ hm
  have w0 := reach_at hsz (j := 0) rfl rfl
  clear hA0 hval0
  obtain ⟨s0, rfl, rfl, rfl, hs0⟩ := open_string Tryd.underlying9 (hval 0 9 v0 rfl rfl) h0
  have ss0 : s0.size ≤ 140737488355328 := by
    have h1 := sized_string hsz (j := 0) (t := 9) rfl rfl
    have h2 := reachBytes_lt
    have e1 : s0.size = s0.data.size := rfl
    have e2 : s0.data.toList.length = s0.data.size := Array.length_toList
    have e3 : (2 : Nat) ^ 47 = 140737488355328 := by decide
    omega
  refine (walk W hTab.out ss0).mono fun e W' ⟨he, bel⟩ => ?_
  subst he
  exact ⟨_, rfl, _, _, _, [], _, [], hW', trodAll_mk1 (shut_bool Tryd.underlying4 _), (trodAll_cons_mk (Below.trod laidOut (by kernel_rfl) (of_decide_eq_true (by kernel_rfl)) k0 bel lt0) trodAll_mk0), rfl, bel.frame _, fun h => by cases h⟩

set_option maxRecDepth 100000 in
theorem laid_met (os : Os) : laidMet Tryd.prog Rows.numberOneRow.laid ((laidWorldN os).forCall (fun _ _ => 0) ⟨#[], #[.string ByteArray.empty], []⟩).memory :=
  laidMet_of_run3 8 (by kernel_rfl) (by kernel_rfl) (by kernel_rfl)
theorem reads (os : Os) {H : Type} (enc : TypeId × Value → H) : ∃ places, DataW.whole enc Tryd.prog ((laidWorldN os).forCall (fun _ _ => 0) ⟨#[], #[.string ByteArray.empty], []⟩).memory Tryd.f9.params.toList Rows.numberOneSpec.vars false (#[.string ByteArray.empty] : Array Value).toList 8 = some ([.lit (.string [])], [], places) :=
  ⟨[], by kernel_rfl⟩

set_option maxRecDepth 100000 in
theorem lifted (os : Os) (started : os.Started) (H : Type) (enc : TypeId × Value → H) (F : Stop.Interp) :
    ReturnsInHanded {} Tryd.checked os 9 .any ((OpenSpec.ofChange Rows.numberOneSpec).preRow enc Tryd.prog Tryd.f9 Rows.numberOneRow.domain false Rows.numberOneRow.laid) (((OpenSpec.ofChange Rows.numberOneSpec).at F).post enc Tryd.prog Tryd.f9 false true false false) := by
  obtain ⟨places, hx⟩ := reads os enc
  refine returnsInHanded_of_row (C := Tryd.checked) (s := (OpenSpec.ofChange Rows.numberOneSpec)) own started (by kernel_rfl) Tryd.func9
    (witness_row_at (enc := enc) (C := Tryd.checked) false (laidWorldN os) #[.string ByteArray.empty] rfl (by kernel_rfl) (by kernel_rfl) (by kernel_rfl)
      (OpenSpec.preRow_of_cond 8 hx (by kernel_rfl) (fun k hk => by cases hk) (by kernel_rfl) (laid_met os))) ?_
  intro W base args ds gs before hval hW _ hcond hsz hL _ _
  exact contract H enc W base args ds gs before hval hW hsz hL

theorem said : Rows.NumberOneSaid :=
  OpenClaim.holds_of_cond 9 Tryd.f9 rfl rfl rfl rfl rfl rfl rfl ⟨rfl, rfl, rfl, rfl, rfl⟩ rfl rfl rfl rfl rfl (by kernel_rfl) Tryd.func9 (by kernel_rfl)
    (of_decide_eq_true (by kernel_rfl)) (by unfold Func.isWrapper; rw [if_neg (of_decide_eq_false (by kernel_rfl))]; exact ⟨rfl, rfl⟩)
    (fun os started H enc _ F => by rw [OpenClaim.pre_eq_preRow]; exact lifted os started H enc F)

theorem noStandIn : ∀ t ∈ ([9] : List TypeId), Tryd.prog.wantsStandIn t = false := by
  intro t ht
  simp only [List.mem_cons, List.not_mem_nil, or_false] at ht
  rcases ht with rfl
  · exact (show Tryd.prog.wantsStandIn 9 = false by kernel_rfl)
theorem plain (f : FuncId) (fn : Func) (hf : Tryd.pinned.checked.prog.funcNamed "satchel/satchellaw05.NumberOne" = some f) (hfn : Tryd.pinned.checked.prog.funcs[f]? = some fn) :
    true = Tryd.pinned.checked.prog.looks [] ∧ ∀ (j : Nat) t, fn.params[j]? = some t → Tryd.pinned.checked.prog.wantsStandIn t = false := by
  obtain rfl : f = 9 := Option.some.inj ((show Tryd.prog.funcNamed "satchel/satchellaw05.NumberOne" = some 9 by kernel_rfl).symm.trans hf) |>.symm
  obtain rfl : fn = Tryd.f9 := (Option.some.inj (Tryd.func9.symm.trans hfn)).symm
  refine ⟨by kernel_rfl, fun j t ht => ?_⟩
  rw [Tryd.params9] at ht
  exact noStandIn t (by simpa using Array.mem_of_getElem? ht)

/-- THE CARD -/
theorem proved : Rows.NumberOneCardSaid :=
  Claim7.holds_tied_plain_at .later [] _ _ _ _ said (fun _ h => by cases h) (by kernel_rfl) (fun _ h => by cases h) numberOne_row_tie rfl ⟨rfl, rfl⟩ (by kernel_rfl) rfl plain (by kernel_rfl)
end Go.Proofs.YtdjjdhkpffjnfaaDoor.numberOne
