/- Every whole number and every float that is written is read again, to the bit (a NaN as the one NaN). The library's tables and errors stand as the program's text lays them (the card ties them). -/
import Derived.Test.YtdjjdhkpffjnfaaDoorOpen
import Derived.Test.YtdjjdhkpffjnfaaDoorCards
import Derived.Test.YtdjjdhkpffjnfaaDoorTie
import Derived.Deep.DeepHandedRow
import Derived.Lib.LaidTab
import Derived.Test.YtdjjdhkpffjnfaaDoorNumLaid
import Derived.Test.YtdjjdhkpffjnfaaDoorNumNan
namespace Go.Proofs.YtdjjdhkpffjnfaaDoor.numberThere
open Go.ChangeShapes Go.WideShapes Go.ChangeAt Go.RowKit
open Go.ChangeMaps (open_string shut_string)
set_option linter.unusedVariables false

set_option maxRecDepth 100000 in
set_option maxHeartbeats 2000000 in
theorem walk (w : World) (hT : Tabs w) {n : Int} (hn : -9223372036854775808 ≤ n ∧ n ≤ 9223372036854775807) {b : Int} (hb : 0 ≤ b ∧ b ≤ 18446744073709551615) :
    Calls Tryd.prog 8 #[.int .i64 n, .int .u64 b] w fun e w' => e = .returned (.bool true) ∧ Below w.heap.size w w' := by
  obtain ⟨x, rfl⟩ := Int.eq_ofNat_of_zero_le hb.1
  have hx : x < 18446744073709551616 := by omega
  have HS := Lib.hid (nspeaks w hT)
  have hil : (Lib.itoa n).length ≤ 21 := by
    unfold Lib.itoa
    split
    · have := dd_len20 (n := n.natAbs) (by omega); simp; omega
    · have := dd_len20 (n := n.toNat) (by omega); omega
  have hfl : (formF x).length ≤ 23 := by
    unfold formF
    split
    · decide
    · split
      · have := magT_len (m := x % 9223372036854775808) (by omega); simp; omega
      · have := magT_len (m := x % 9223372036854775808) (by omega); omega
  have HFI : Hid (∀ w', Tabs w' → Calls Tryd.prog 13 #[.int .i64 n] w' fun e w'' => e = .returned (.string ⟨(Lib.itoa n).toArray⟩) ∧ Below w'.heap.size w' w'') := Lib.hid fun w' h => FormatInt_any n w' h hn.1 hn.2
  have HPI : Hid (∀ w', Tabs w' → Calls Tryd.prog 15 #[.string ⟨(Lib.itoa n).toArray⟩] w' fun e w'' => e = .returned (.tuple #[.int .i64 n, .int .i64 0]) ∧ Below w'.heap.size w' w'') := Lib.hid fun w' h => by
    refine (ParseInt_any ⟨(Lib.itoa n).toArray⟩ w' h (by rw [str_size]; omega)).mono fun e w'' ⟨he, hb⟩ => ⟨?_, hb⟩
    rw [he, show (⟨(Lib.itoa n).toArray⟩ : ByteArray).data.toList = Lib.itoa n from rfl, parseI_itoa hn.1 hn.2]
  have HFF : Hid (∀ w', Tabs w' → Calls Tryd.prog 17 #[.int .u64 (x : Int)] w' fun e' w'' => e' = .returned (.string ⟨(formF x).toArray⟩) ∧ Below w'.heap.size w' w'') := Lib.hid fun w' hT => FormatFloat_any x w' hT hx
  have HNN := Lib.hid fun w' => nan_any x w' hx
  have HT := Lib.hid hT
  obtain ⟨S, hS⟩ : ∃ S : ByteArray, S = ⟨(Lib.itoa n).toArray⟩ := ⟨_, rfl⟩
  rw [← hS] at HFI HPI
  by_cases hnan : 9218868437227405312 < x % 9223372036854775808
  · have HPF : Hid (∀ w', Tabs w' → Calls Tryd.prog 19 #[.string ⟨(formF x).toArray⟩] w' fun e w'' => e = .returned (.tuple #[.int .u64 9221120237041090560, .int .i64 0]) ∧ Below w'.heap.size w' w'') := Lib.hid fun w' h => by
      refine (ParseFloat_any ⟨(formF x).toArray⟩ w' h (by rw [str_size]; omega)).mono fun e w'' ⟨v, c, he, hr, hb⟩ => ⟨?_, hb⟩
      have hr2 := readF_form (b := 9221120237041090560) ⟨by omega, .inr rfl⟩
      rw [formF_nan_own, ← formF_nan hnan] at hr2
      obtain ⟨rfl, rfl⟩ := readF_one hr hr2
      exact he
    rw [decide_eq_true hnan] at HNN
    obtain ⟨F, hF⟩ : ∃ F : ByteArray, F = ⟨(formF x).toArray⟩ := ⟨_, rfl⟩
    rw [← hF] at HFF HPF
    have en : (n != n) = false := by simp
    obtain ⟨xi, hxi⟩ : ∃ xi : Int, xi = (x : Int) := ⟨_, rfl⟩
    rw [← hxi] at HFF HNN
    show Calls _ _ #[.int .i64 n, .int .u64 (x : Int)] _ _
    rw [← hxi]
    clear hT hS hF hnan hn hb hx hil hfl hxi
    go_enter Tryd.func8, Tryd.ntmps8
    go_wp2_with fail
    refine HS.out.mono ?_
    rintro e w1 ⟨rfl, hb1⟩
    have HB1 := Lib.hid hb1
    clear hb1
    go_wp2_with fail
    refine (HFI.out _ (HT.out.below HB1.out (Nat.le_refl _))).mono ?_
    rintro e w2 ⟨rfl, hb2⟩
    have HB2 := Lib.hid (HB1.out.trans (hb2.mono HB1.out.size))
    clear hb2
    go_wp2_with fail
    refine (HPI.out _ (HT.out.below HB2.out (Nat.le_refl _))).mono ?_
    rintro e w3 ⟨rfl, hb3⟩
    have HB3 := Lib.hid (HB2.out.trans (hb3.mono HB2.out.size))
    clear hb3
    go_wp2_with fail
    refine (HFF.out _ (HT.out.below HB3.out (Nat.le_refl _))).mono ?_
    rintro e w4 ⟨rfl, hb4⟩
    have HB4 := Lib.hid (HB3.out.trans (hb4.mono HB3.out.size))
    clear hb4
    go_wp2_with fail
    refine (HPF.out _ (HT.out.below HB4.out (Nat.le_refl _))).mono ?_
    rintro e w5 ⟨rfl, hb5⟩
    have HB5 := Lib.hid (HB4.out.trans (hb5.mono HB4.out.size))
    clear hb5
    go_wp2_with fail
    refine (HNN.out _).mono ?_
    rintro e w6 ⟨rfl, rfl⟩
    go_wp2
    go_ret
    exact ⟨rfl, HB5.out⟩
  · have HPF : Hid (∀ w', Tabs w' → Calls Tryd.prog 19 #[.string ⟨(formF x).toArray⟩] w' fun e w'' => e = .returned (.tuple #[.int .u64 (x : Int), .int .i64 0]) ∧ Below w'.heap.size w' w'') := Lib.hid fun w' h => by
      refine (ParseFloat_any ⟨(formF x).toArray⟩ w' h (by rw [str_size]; omega)).mono fun e w'' ⟨v, c, he, hr, hb⟩ => ⟨?_, hb⟩
      have hr2 := readF_form (b := x) ⟨hx, .inl (by omega)⟩
      obtain ⟨rfl, rfl⟩ := readF_one hr hr2
      exact he
    rw [decide_eq_false hnan] at HNN
    obtain ⟨F, hF⟩ : ∃ F : ByteArray, F = ⟨(formF x).toArray⟩ := ⟨_, rfl⟩
    rw [← hF] at HFF HPF
    have en : (n != n) = false := by simp
    obtain ⟨xi, hxi⟩ : ∃ xi : Int, xi = (x : Int) := ⟨_, rfl⟩
    rw [← hxi] at HFF HNN HPF
    show Calls _ _ #[.int .i64 n, .int .u64 (x : Int)] _ _
    rw [← hxi]
    have ex : (xi == xi) = true := by simp
    clear hT hS hF hnan hn hb hx hil hfl hxi
    go_enter Tryd.func8, Tryd.ntmps8
    go_wp2_with fail
    refine HS.out.mono ?_
    rintro e w1 ⟨rfl, hb1⟩
    have HB1 := Lib.hid hb1
    clear hb1
    go_wp2_with fail
    refine (HFI.out _ (HT.out.below HB1.out (Nat.le_refl _))).mono ?_
    rintro e w2 ⟨rfl, hb2⟩
    have HB2 := Lib.hid (HB1.out.trans (hb2.mono HB1.out.size))
    clear hb2
    go_wp2_with fail
    refine (HPI.out _ (HT.out.below HB2.out (Nat.le_refl _))).mono ?_
    rintro e w3 ⟨rfl, hb3⟩
    have HB3 := Lib.hid (HB2.out.trans (hb3.mono HB2.out.size))
    clear hb3
    go_wp2_with fail
    refine (HFF.out _ (HT.out.below HB3.out (Nat.le_refl _))).mono ?_
    rintro e w4 ⟨rfl, hb4⟩
    have HB4 := Lib.hid (HB3.out.trans (hb4.mono HB3.out.size))
    clear hb4
    go_wp2_with fail
    refine (HPF.out _ (HT.out.below HB4.out (Nat.le_refl _))).mono ?_
    rintro e w5 ⟨rfl, hb5⟩
    have HB5 := Lib.hid (HB4.out.trans (hb5.mono HB4.out.size))
    clear hb5
    go_wp2_with fail
    refine (HNN.out _).mono ?_
    rintro e w6 ⟨rfl, rfl⟩
    go_wp2
    go_ret
    exact ⟨rfl, HB5.out⟩

/-! ### THE ROW's STEP -/
theorem own : ownKnob Tryd.prog.godebug = none := by kernel_rfl
theorem laidOut : laidOutB Tryd.prog = true := by kernel_rfl

set_option maxRecDepth 100000 in
theorem contract (H : Type) (enc : TypeId × Value → H) (W : World) (base : Nat) (args : Array Value) (ds gs : List (DataW H)) (before : List MemPlace)
    (hval0 : ∀ (j : Nat) t v, Tryd.f8.params[j]? = some t → args[j]? = some v → Value.okWide Tryd.prog W .any base t v)
    (hW : DataW.Whole enc Tryd.prog Tryd.f8.params.toList Rows.numberThereSpec.vars false W args.toList ds gs before)
    (hsz : (DataW.weightsEach Tryd.prog (Tryd.f8.params.toList ++ (OpenSpec.ofChange Rows.numberThereSpec).bare.plain.varTypes Tryd.prog) (ds ++ gs)).all (· ≤ reachBytes) = true) (hL : laidMetH Tryd.prog Rows.numberThereRow.laid W) :
    Calls Tryd.prog 8 args W fun e W' => ∃ v, e = .returned v ∧ Rows.numberThereSpec.post enc Tryd.prog Tryd.f8 false true false false W args v W' := by
  have hval : ∀ (j : Nat) t v, Tryd.f8.params[j]? = some t → args[j]? = some v → Value.okWide Tryd.prog W .any base t v := hval0
  have hW' := hW
  have hTab := Lib.hid (tabs_of hL)
  clear hL
  obtain ⟨p, q, hA0, hV, rfl, hfz, hnd⟩ := hW
  have hA : DataW.TrodAll enc Tryd.prog W 0 (fun _ => true) true Tryd.f8.params.toList args.toList ds p := hA0
  rw [Tryd.params8] at hA hval
  obtain ⟨v0, vs0, d0, ds0, p0, q0, hargs, rfl, rfl, h0, r0⟩ := trodAll_cons hA
  obtain ⟨v1, vs1, d1, ds1, p1, q1, rfl, rfl, rfl, h1, r1⟩ := trodAll_cons r0
  obtain ⟨rfl, rfl, rfl⟩ := trodAll_nil r1
  obtain rfl : args = #[v0, v1] := by cases args; simp_all
  obtain ⟨rfl, rfl⟩ := trodVars_none hV
  have k0 := h0
  have lt0 : ∀ x ∈ p0, x.block < W.heap.size := by obtain ⟨m, hm⟩ := k0; exact DataW.trod_lt m _ _ _ hm
  have w0 := reach_at hsz (j := 0) rfl rfl
  have k1 := h1
  have lt1 : ∀ x ∈ p1, x.block < W.heap.size := by obtain ⟨m, hm⟩ := k1; exact DataW.trod_lt m _ _ _ hm
  have w1 := reach_at hsz (j := 1) rfl rfl
  clear hA0 hval0 hsz
  obtain ⟨a0, rfl, rfl, rfl, wf0⟩ := open_int Tryd.underlying2 (hval 0 2 v0 rfl rfl) h0
  obtain ⟨a1, rfl, rfl, rfl, wf1⟩ := open_int Tryd.underlying31 (hval 1 31 v1 rfl rfl) h1
  refine (walk W hTab.out (bounds_i64 wf0) (bounds_u64 wf1)).mono fun e W' ⟨he, bel⟩ => ?_
  subst he
  exact ⟨_, rfl, _, _, _, [], _, [], hW', trodAll_mk1 (shut_bool Tryd.underlying4 _), (trodAll_cons_mk (Below.trod laidOut (by kernel_rfl) (of_decide_eq_true (by kernel_rfl)) k0 bel lt0) (trodAll_cons_mk (Below.trod laidOut (by kernel_rfl) (of_decide_eq_true (by kernel_rfl)) k1 bel lt1) trodAll_mk0)), rfl, bel.frame _, fun h => by cases h⟩

set_option maxRecDepth 100000 in
theorem laid_met (os : Os) : laidMet Tryd.prog Rows.numberThereRow.laid ((laidWorldN os).forCall (fun _ _ => 0) ⟨#[], #[.int .i64 0, .int .u64 0], []⟩).memory :=
  laidMet_of_run3 8 (by kernel_rfl) (by kernel_rfl) (by kernel_rfl)
theorem reads (os : Os) {H : Type} (enc : TypeId × Value → H) : ∃ places, DataW.whole enc Tryd.prog ((laidWorldN os).forCall (fun _ _ => 0) ⟨#[], #[.int .i64 0, .int .u64 0], []⟩).memory Tryd.f8.params.toList Rows.numberThereSpec.vars false (#[.int .i64 0, .int .u64 0] : Array Value).toList 8 = some ([.lit (.int .i64 0), .lit (.int .u64 0)], [], places) :=
  ⟨[], by kernel_rfl⟩

set_option maxRecDepth 100000 in
theorem lifted (os : Os) (started : os.Started) (H : Type) (enc : TypeId × Value → H) (F : Stop.Interp) :
    ReturnsInHanded {} Tryd.checked os 8 .any ((OpenSpec.ofChange Rows.numberThereSpec).preRow enc Tryd.prog Tryd.f8 Rows.numberThereRow.domain false Rows.numberThereRow.laid) (((OpenSpec.ofChange Rows.numberThereSpec).at F).post enc Tryd.prog Tryd.f8 false true false false) := by
  obtain ⟨places, hx⟩ := reads os enc
  refine returnsInHanded_of_row (C := Tryd.checked) (s := (OpenSpec.ofChange Rows.numberThereSpec)) own started (by kernel_rfl) Tryd.func8
    (witness_row_at (enc := enc) (C := Tryd.checked) false (laidWorldN os) #[.int .i64 0, .int .u64 0] rfl (by kernel_rfl) (by kernel_rfl) (by kernel_rfl)
      (OpenSpec.preRow_of_cond 8 hx (by kernel_rfl) (fun k hk => by cases hk) (by kernel_rfl) (laid_met os))) ?_
  intro W base args ds gs before hval hW _ hcond hsz hL _ _
  exact contract H enc W base args ds gs before hval hW hsz hL

theorem said : Rows.NumberThereSaid :=
  OpenClaim.holds_of_cond 8 Tryd.f8 rfl rfl rfl rfl rfl rfl rfl ⟨rfl, rfl, rfl, rfl, rfl⟩ rfl rfl rfl rfl rfl (by kernel_rfl) Tryd.func8 (by kernel_rfl)
    (of_decide_eq_true (by kernel_rfl)) (by unfold Func.isWrapper; rw [if_neg (of_decide_eq_false (by kernel_rfl))]; exact ⟨rfl, rfl⟩)
    (fun os started H enc _ F => by rw [OpenClaim.pre_eq_preRow]; exact lifted os started H enc F)

theorem noStandIn : ∀ t ∈ ([2, 31] : List TypeId), Tryd.prog.wantsStandIn t = false := by
  intro t ht
  simp only [List.mem_cons, List.not_mem_nil, or_false] at ht
  rcases ht with rfl | rfl
  · exact (show Tryd.prog.wantsStandIn 2 = false by kernel_rfl)
  · exact (show Tryd.prog.wantsStandIn 31 = false by kernel_rfl)
theorem plain (f : FuncId) (fn : Func) (hf : Tryd.pinned.checked.prog.funcNamed "satchel/satchellaw05.NumberThere" = some f) (hfn : Tryd.pinned.checked.prog.funcs[f]? = some fn) :
    true = Tryd.pinned.checked.prog.looks [] ∧ ∀ (j : Nat) t, fn.params[j]? = some t → Tryd.pinned.checked.prog.wantsStandIn t = false := by
  obtain rfl : f = 8 := Option.some.inj ((show Tryd.prog.funcNamed "satchel/satchellaw05.NumberThere" = some 8 by kernel_rfl).symm.trans hf) |>.symm
  obtain rfl : fn = Tryd.f8 := (Option.some.inj (Tryd.func8.symm.trans hfn)).symm
  refine ⟨by kernel_rfl, fun j t ht => ?_⟩
  rw [Tryd.params8] at ht
  exact noStandIn t (by simpa using Array.mem_of_getElem? ht)

/-- THE CARD -/
theorem proved : Rows.NumberThereCardSaid :=
  Claim7.holds_tied_plain_at .later [] _ _ _ _ said (fun _ h => by cases h) (by kernel_rfl) (fun _ h => by cases h) numberThere_row_tie rfl ⟨rfl, rfl⟩ (by kernel_rfl) rfl plain (by kernel_rfl)
end Go.Proofs.YtdjjdhkpffjnfaaDoor.numberThere
