/- The other sign puts a - ahead: of whole numbers above 0, and of floats that are no NaN. The library's tables and errors stand as the program's text lays them (the card ties them). -/
import Derived.Test.YtdjjdhkpffjnfaaDoorOpen
import Derived.Test.YtdjjdhkpffjnfaaDoorCards
import Derived.Test.YtdjjdhkpffjnfaaDoorTie
import Derived.Deep.DeepHandedRow
import Derived.Lib.LaidTab
import Derived.Test.YtdjjdhkpffjnfaaDoorNumLaid
import Derived.Test.YtdjjdhkpffjnfaaDoorNumNan
namespace Go.Proofs.YtdjjdhkpffjnfaaDoor.numberSigns
open Go.ChangeShapes Go.WideShapes Go.ChangeAt Go.RowKit
open Go.ChangeMaps (open_string shut_string)
set_option linter.unusedVariables false

theorem and62 {x : Nat} (h : x < 18446744073709551616) : bits .and .u64 (x : Int) 9223372036854775807 = ((x % 9223372036854775808 : Nat) : Int) := by
  have := u64_and_nat x 9223372036854775807 h (by omega)
  rw [show x &&& 9223372036854775807 = x % 9223372036854775808 from Nat.and_two_pow_sub_one_eq_mod x 63] at this
  exact this
theorem or_sign {g : Nat} (h : g < 9223372036854775808) : bits .or .u64 (g : Int) 9223372036854775808 = ((g + 9223372036854775808 : Nat) : Int) := by
  have h2 := u64_or_nat g 9223372036854775808 (by omega) (by omega)
  rw [Nat.or_comm, nat_join 63 9223372036854775808 g (by decide) (by omega)] at h2
  rw [Nat.add_comm]
  exact h2
set_option maxRecDepth 100000 in
set_option maxHeartbeats 2000000 in
theorem walk (w : World) (hT : Tabs w) {n : Int} (hn : -9223372036854775808 ≤ n ∧ n ≤ 9223372036854775807) {b : Int} (hb : 0 ≤ b ∧ b ≤ 18446744073709551615) :
    Calls Tryd.prog 10 #[.int .i64 n, .int .u64 b] w fun e w' => e = .returned (.bool true) ∧ Below w.heap.size w w' := by
  obtain ⟨x, rfl⟩ := Int.eq_ofNat_of_zero_le hb.1
  have hx : x < 18446744073709551616 := by omega
  have HS := Lib.hid (nspeaks w hT)
  have HT := Lib.hid hT
  obtain ⟨m, hm⟩ : ∃ m, m = x % 9223372036854775808 := ⟨_, rfl⟩
  have ea := and62 hx
  rw [← hm] at ea
  have hm63 : m < 9223372036854775808 := by omega
  have eo := or_sign hm63
  obtain ⟨q, hq⟩ : ∃ q, q = m + 9223372036854775808 := ⟨_, rfl⟩
  rw [← hq] at eo
  have HNN := Lib.hid fun w' => nan_any m w' (by omega)
  have HF1 : Hid (∀ w', Tabs w' → Calls Tryd.prog 17 #[.int .u64 (m : Int)] w' fun e' w'' => e' = .returned (.string ⟨(formF m).toArray⟩) ∧ Below w'.heap.size w' w'') := Lib.hid fun w' hT => FormatFloat_any m w' hT (by omega)
  have HF2 : Hid (∀ w', Tabs w' → Calls Tryd.prog 17 #[.int .u64 (q : Int)] w' fun e' w'' => e' = .returned (.string ⟨(formF q).toArray⟩) ∧ Below w'.heap.size w' w'') := Lib.hid fun w' hT => FormatFloat_any q w' hT (by omega)
  have hmm : m % 9223372036854775808 = m := by omega
  have hqm : q % 9223372036854775808 = m := by omega
  rw [hmm] at HNN
  obtain ⟨A, hA⟩ : ∃ A : ByteArray, A = ⟨(formF m).toArray⟩ := ⟨_, rfl⟩
  obtain ⟨B, hB⟩ : ∃ B : ByteArray, B = ⟨(formF q).toArray⟩ := ⟨_, rfl⟩
  rw [← hA] at HF1
  rw [← hB] at HF2
  have hnanAB : 9218868437227405312 < m → A = B := fun h => by rw [hA, hB, formF_nan (by omega), formF_nan (by omega)]
  have hAs : A.size ≤ 23 := by
    rw [hA, str_size]
    unfold formF
    split
    · decide
    · split
      · have := magT_len (m := m % 9223372036854775808) (by omega); simp; omega
      · have := magT_len (m := m % 9223372036854775808) (by omega); omega
  have hfinAB : ¬ 9218868437227405312 < m → B = ⟨#[45]⟩ ++ A := fun h => by
    rw [hA, hB, formF_neg (b := q) (by omega) (by omega), formF_pos (b := m) (by omega) (by omega), hqm, hmm]
    exact (app_str [45] _).symm
  have HI1 : Hid (∀ w', Tabs w' → 0 < n → Calls Tryd.prog 13 #[.int .i64 (-n)] w' fun e w'' => e = .returned (.string ⟨(Lib.itoa (-n)).toArray⟩) ∧ Below w'.heap.size w' w'') := Lib.hid fun w' h h0 => FormatInt_any (-n) w' h (by omega) (by omega)
  have HI2 : Hid (∀ w', Tabs w' → Calls Tryd.prog 13 #[.int .i64 n] w' fun e w'' => e = .returned (.string ⟨(Lib.itoa n).toArray⟩) ∧ Below w'.heap.size w' w'') := Lib.hid fun w' h => FormatInt_any n w' h hn.1 hn.2
  obtain ⟨C, hC⟩ : ∃ C : ByteArray, C = ⟨(Lib.itoa (-n)).toArray⟩ := ⟨_, rfl⟩
  obtain ⟨D, hD⟩ : ∃ D : ByteArray, D = ⟨(Lib.itoa n).toArray⟩ := ⟨_, rfl⟩
  rw [← hC] at HI1
  rw [← hD] at HI2
  have hCD : 0 < n → C = ⟨#[45]⟩ ++ D := fun h => by
    rw [hC, hD, itoa_neg (n := -n) (by omega), itoa_nn (n := n) (by omega), show (-n).natAbs = n.toNat by omega]
    exact (app_str [45] _).symm
  have hDs : D.size ≤ 21 := by
    rw [hD, str_size]
    unfold Lib.itoa
    split
    · have := dd_len20 (n := n.natAbs) (by omega); simp; omega
    · have := dd_len20 (n := n.toNat) (by omega); omega
  have n0 := hn.1
  have n1 := hn.2
  obtain ⟨xi, hxi⟩ : ∃ xi : Int, xi = (x : Int) := ⟨_, rfl⟩
  obtain ⟨mi, hmi⟩ : ∃ mi : Int, mi = (m : Int) := ⟨_, rfl⟩
  obtain ⟨qi, hqi⟩ : ∃ qi : Int, qi = (q : Int) := ⟨_, rfl⟩
  rw [← hxi, ← hmi] at ea
  rw [← hmi, ← hqi] at eo
  rw [← hmi] at HF1 HNN
  rw [← hqi] at HF2
  show Calls _ _ #[.int .i64 n, .int .u64 (x : Int)] _ _
  rw [← hxi]
  clear hA hB hC hD hxi hmi hqi hm hq hm63 hmm hqm hx hb hn hT
  by_cases hpos : 0 < n
  · by_cases hnan : 9218868437227405312 < m
    · obtain rfl := hnanAB hnan
      rw [decide_eq_true hnan] at HNN
      have eAA : (A.toList == A.toList) = true := by simp
      have eCD : (C.toList == (⟨#[45]⟩ ++ D : ByteArray).toList) = true := by rw [hCD hpos]; simp
      clear hCD hfinAB hnan hnanAB
      go_enter Tryd.func10, Tryd.ntmps10
      go_wp2_with fail
      refine HS.out.mono ?_
      rintro e w1 ⟨rfl, hb1⟩
      have HB1 := Lib.hid hb1
      clear hb1
      go_wp2_with fail
      refine (HI1.out _ (HT.out.below HB1.out (Nat.le_refl _)) hpos).mono ?_
      rintro e w2 ⟨rfl, hb2⟩
      have HB2 := Lib.hid (HB1.out.trans (hb2.mono HB1.out.size))
      clear hb2
      go_wp2_with fail
      refine (HI2.out _ (HT.out.below HB2.out (Nat.le_refl _))).mono ?_
      rintro e w3 ⟨rfl, hb3⟩
      have HB3 := Lib.hid (HB2.out.trans (hb3.mono HB2.out.size))
      clear hb3
      go_wp2_with fail
      refine (HNN.out _).mono ?_
      rintro e w' ⟨rfl, rfl⟩
      go_wp2_with fail
      refine (HF1.out _ (HT.out.below HB3.out (Nat.le_refl _))).mono ?_
      rintro e w4 ⟨rfl, hb4⟩
      have HB4 := Lib.hid (HB3.out.trans (hb4.mono HB3.out.size))
      clear hb4
      go_wp2_with fail
      refine (HF2.out _ (HT.out.below HB4.out (Nat.le_refl _))).mono ?_
      rintro e w5 ⟨rfl, hb5⟩
      have HB5 := Lib.hid (HB4.out.trans (hb5.mono HB4.out.size))
      clear hb5
      go_wp2
      go_ret
      exact ⟨ret_bool' (by first | rfl | simp), HB5.out⟩
    · have hBA := hfinAB hnan
      rw [decide_eq_false hnan] at HNN
      have eAB : (B.toList == (⟨#[45]⟩ ++ A : ByteArray).toList) = true := by rw [hBA]; simp
      clear hBA
      have eCD : (C.toList == (⟨#[45]⟩ ++ D : ByteArray).toList) = true := by rw [hCD hpos]; simp
      clear hCD hnanAB hfinAB hnan
      go_enter Tryd.func10, Tryd.ntmps10
      go_wp2_with fail
      refine HS.out.mono ?_
      rintro e w1 ⟨rfl, hb1⟩
      have HB1 := Lib.hid hb1
      clear hb1
      go_wp2_with fail
      refine (HI1.out _ (HT.out.below HB1.out (Nat.le_refl _)) hpos).mono ?_
      rintro e w2 ⟨rfl, hb2⟩
      have HB2 := Lib.hid (HB1.out.trans (hb2.mono HB1.out.size))
      clear hb2
      go_wp2_with fail
      refine (HI2.out _ (HT.out.below HB2.out (Nat.le_refl _))).mono ?_
      rintro e w3 ⟨rfl, hb3⟩
      have HB3 := Lib.hid (HB2.out.trans (hb3.mono HB2.out.size))
      clear hb3
      go_wp2_with fail
      refine (HNN.out _).mono ?_
      rintro e w' ⟨rfl, rfl⟩
      go_wp2_with fail
      refine (HF2.out _ (HT.out.below HB3.out (Nat.le_refl _))).mono ?_
      rintro e w4 ⟨rfl, hb4⟩
      have HB4 := Lib.hid (HB3.out.trans (hb4.mono HB3.out.size))
      clear hb4
      go_wp2_with fail
      refine (HF1.out _ (HT.out.below HB4.out (Nat.le_refl _))).mono ?_
      rintro e w5 ⟨rfl, hb5⟩
      have HB5 := Lib.hid (HB4.out.trans (hb5.mono HB4.out.size))
      clear hb5
      go_wp2
      go_ret
      exact ⟨ret_bool' (by first | rfl | simp), HB5.out⟩
  · by_cases hnan : 9218868437227405312 < m
    · obtain rfl := hnanAB hnan
      rw [decide_eq_true hnan] at HNN
      have eAA : (A.toList == A.toList) = true := by simp
      have hpos' : n ≤ 0 := by omega
      clear hpos
      clear hCD hfinAB hnan hnanAB
      go_enter Tryd.func10, Tryd.ntmps10
      go_wp2_with fail
      refine HS.out.mono ?_
      rintro e w1 ⟨rfl, hb1⟩
      have HB1 := Lib.hid hb1
      clear hb1
      go_wp2_with fail
      refine (HNN.out _).mono ?_
      rintro e w' ⟨rfl, rfl⟩
      go_wp2_with fail
      refine (HF1.out _ (HT.out.below HB1.out (Nat.le_refl _))).mono ?_
      rintro e w2 ⟨rfl, hb2⟩
      have HB2 := Lib.hid (HB1.out.trans (hb2.mono HB1.out.size))
      clear hb2
      go_wp2_with fail
      refine (HF2.out _ (HT.out.below HB2.out (Nat.le_refl _))).mono ?_
      rintro e w3 ⟨rfl, hb3⟩
      have HB3 := Lib.hid (HB2.out.trans (hb3.mono HB2.out.size))
      clear hb3
      go_wp2
      go_ret
      exact ⟨ret_bool' (by first | rfl | simp), HB3.out⟩
    · have hBA := hfinAB hnan
      rw [decide_eq_false hnan] at HNN
      have eAB : (B.toList == (⟨#[45]⟩ ++ A : ByteArray).toList) = true := by rw [hBA]; simp
      clear hBA
      have hpos' : n ≤ 0 := by omega
      clear hpos
      clear hCD hnanAB hfinAB hnan
      go_enter Tryd.func10, Tryd.ntmps10
      go_wp2_with fail
      refine HS.out.mono ?_
      rintro e w1 ⟨rfl, hb1⟩
      have HB1 := Lib.hid hb1
      clear hb1
      go_wp2_with fail
      refine (HNN.out _).mono ?_
      rintro e w' ⟨rfl, rfl⟩
      go_wp2_with fail
      refine (HF2.out _ (HT.out.below HB1.out (Nat.le_refl _))).mono ?_
      rintro e w2 ⟨rfl, hb2⟩
      have HB2 := Lib.hid (HB1.out.trans (hb2.mono HB1.out.size))
      clear hb2
      go_wp2_with fail
      refine (HF1.out _ (HT.out.below HB2.out (Nat.le_refl _))).mono ?_
      rintro e w3 ⟨rfl, hb3⟩
      have HB3 := Lib.hid (HB2.out.trans (hb3.mono HB2.out.size))
      clear hb3
      go_wp2
      go_ret
      exact ⟨ret_bool' (by first | rfl | simp), HB3.out⟩

/-! ### THE ROW's STEP -/
theorem own : ownKnob Tryd.prog.godebug = none := by kernel_rfl
theorem laidOut : laidOutB Tryd.prog = true := by kernel_rfl

set_option maxRecDepth 100000 in
theorem contract (H : Type) (enc : TypeId × Value → H) (W : World) (base : Nat) (args : Array Value) (ds gs : List (DataW H)) (before : List MemPlace)
    (hval0 : ∀ (j : Nat) t v, Tryd.f10.params[j]? = some t → args[j]? = some v → Value.okWide Tryd.prog W .any base t v)
    (hW : DataW.Whole enc Tryd.prog Tryd.f10.params.toList Rows.numberSignsSpec.vars false W args.toList ds gs before)
    (hsz : (DataW.weightsEach Tryd.prog (Tryd.f10.params.toList ++ (OpenSpec.ofChange Rows.numberSignsSpec).bare.plain.varTypes Tryd.prog) (ds ++ gs)).all (· ≤ reachBytes) = true) (hL : laidMetH Tryd.prog Rows.numberSignsRow.laid W) :
    Calls Tryd.prog 10 args W fun e W' => ∃ v, e = .returned v ∧ Rows.numberSignsSpec.post enc Tryd.prog Tryd.f10 false true false false W args v W' := by
  have hval : ∀ (j : Nat) t v, Tryd.f10.params[j]? = some t → args[j]? = some v → Value.okWide Tryd.prog W .any base t v := hval0
  have hW' := hW
  have hTab := Lib.hid (tabs_of hL)
  clear hL
  obtain ⟨p, q, hA0, hV, rfl, hfz, hnd⟩ := hW
  have hA : DataW.TrodAll enc Tryd.prog W 0 (fun _ => true) true Tryd.f10.params.toList args.toList ds p := hA0
  rw [Tryd.params10] at hA hval
  obtain ⟨v0, vs0, d0, ds0, p0, q0, hargs, rfl, rfl, h0, r0⟩ := trodAll_cons hA
  obtain ⟨v1, vs1, d1, ds1, p1, q1, rfl, rfl, rfl, h1, r1⟩ := trodAll_cons r0
  obtain ⟨rfl, rfl, rfl⟩ := trodAll_nil r1
  obtain rfl : args = #[v0, v1] := by cases args; simp_all
  obtain ⟨rfl, rfl⟩ := trodVars_none hV
  have k0 := h0
  have lt0 : ∀ x ∈ p0, x.block < W.heap.size := by obtain ⟨m, hm⟩ := k0; exact DataW.trod_lt m _ _ _ hm
  have w0 := reach_at hsz (j := 0) rfl rfl
  have k1 := h1
  have lt1 : ∀ x ∈ p1, x.block < W.heap.size := by obtain ⟨m, hm⟩ := k1; exact DataW.trod_lt m _ _ _ hm
  have w1 := reach_at hsz (j := 1) rfl rfl
  clear hA0 hval0 hsz
  obtain ⟨a0, rfl, rfl, rfl, wf0⟩ := open_int Tryd.underlying2 (hval 0 2 v0 rfl rfl) h0
  obtain ⟨a1, rfl, rfl, rfl, wf1⟩ := open_int Tryd.underlying31 (hval 1 31 v1 rfl rfl) h1
  refine (walk W hTab.out (bounds_i64 wf0) (bounds_u64 wf1)).mono fun e W' ⟨he, bel⟩ => ?_
  subst he
  exact ⟨_, rfl, _, _, _, [], _, [], hW', trodAll_mk1 (shut_bool Tryd.underlying4 _), (trodAll_cons_mk (Below.trod laidOut (by kernel_rfl) (of_decide_eq_true (by kernel_rfl)) k0 bel lt0) (trodAll_cons_mk (Below.trod laidOut (by kernel_rfl) (of_decide_eq_true (by kernel_rfl)) k1 bel lt1) trodAll_mk0)), rfl, bel.frame _, fun h => by cases h⟩

set_option maxRecDepth 100000 in
theorem laid_met (os : Os) : laidMet Tryd.prog Rows.numberSignsRow.laid ((laidWorldN os).forCall (fun _ _ => 0) ⟨#[], #[.int .i64 0, .int .u64 0], []⟩).memory :=
  laidMet_of_run3 8 (by kernel_rfl) (by kernel_rfl) (by kernel_rfl)
theorem reads (os : Os) {H : Type} (enc : TypeId × Value → H) : ∃ places, DataW.whole enc Tryd.prog ((laidWorldN os).forCall (fun _ _ => 0) ⟨#[], #[.int .i64 0, .int .u64 0], []⟩).memory Tryd.f10.params.toList Rows.numberSignsSpec.vars false (#[.int .i64 0, .int .u64 0] : Array Value).toList 8 = some ([.lit (.int .i64 0), .lit (.int .u64 0)], [], places) :=
  ⟨[], by kernel_rfl⟩

set_option maxRecDepth 100000 in
theorem lifted (os : Os) (started : os.Started) (H : Type) (enc : TypeId × Value → H) (F : Stop.Interp) :
    ReturnsInHanded {} Tryd.checked os 10 .any ((OpenSpec.ofChange Rows.numberSignsSpec).preRow enc Tryd.prog Tryd.f10 Rows.numberSignsRow.domain false Rows.numberSignsRow.laid) (((OpenSpec.ofChange Rows.numberSignsSpec).at F).post enc Tryd.prog Tryd.f10 false true false false) := by
  obtain ⟨places, hx⟩ := reads os enc
  refine returnsInHanded_of_row (C := Tryd.checked) (s := (OpenSpec.ofChange Rows.numberSignsSpec)) own started (by kernel_rfl) Tryd.func10
    (witness_row_at (enc := enc) (C := Tryd.checked) false (laidWorldN os) #[.int .i64 0, .int .u64 0] rfl (by kernel_rfl) (by kernel_rfl) (by kernel_rfl)
      (OpenSpec.preRow_of_cond 8 hx (by kernel_rfl) (fun k hk => by cases hk) (by kernel_rfl) (laid_met os))) ?_
  intro W base args ds gs before hval hW _ hcond hsz hL _ _
  exact contract H enc W base args ds gs before hval hW hsz hL

theorem said : Rows.NumberSignsSaid :=
  OpenClaim.holds_of_cond 10 Tryd.f10 rfl rfl rfl rfl rfl rfl rfl ⟨rfl, rfl, rfl, rfl, rfl⟩ rfl rfl rfl rfl rfl (by kernel_rfl) Tryd.func10 (by kernel_rfl)
    (of_decide_eq_true (by kernel_rfl)) (by unfold Func.isWrapper; rw [if_neg (of_decide_eq_false (by kernel_rfl))]; exact ⟨rfl, rfl⟩)
    (fun os started H enc _ F => by rw [OpenClaim.pre_eq_preRow]; exact lifted os started H enc F)

theorem noStandIn : ∀ t ∈ ([2, 31] : List TypeId), Tryd.prog.wantsStandIn t = false := by
  intro t ht
  simp only [List.mem_cons, List.not_mem_nil, or_false] at ht
  rcases ht with rfl | rfl
  · exact (show Tryd.prog.wantsStandIn 2 = false by kernel_rfl)
  · exact (show Tryd.prog.wantsStandIn 31 = false by kernel_rfl)
theorem plain (f : FuncId) (fn : Func) (hf : Tryd.pinned.checked.prog.funcNamed "satchel/satchellaw05.NumberSigns" = some f) (hfn : Tryd.pinned.checked.prog.funcs[f]? = some fn) :
    true = Tryd.pinned.checked.prog.looks [] ∧ ∀ (j : Nat) t, fn.params[j]? = some t → Tryd.pinned.checked.prog.wantsStandIn t = false := by
  obtain rfl : f = 10 := Option.some.inj ((show Tryd.prog.funcNamed "satchel/satchellaw05.NumberSigns" = some 10 by kernel_rfl).symm.trans hf) |>.symm
  obtain rfl : fn = Tryd.f10 := (Option.some.inj (Tryd.func10.symm.trans hfn)).symm
  refine ⟨by kernel_rfl, fun j t ht => ?_⟩
  rw [Tryd.params10] at ht
  exact noStandIn t (by simpa using Array.mem_of_getElem? ht)

/-- THE CARD -/
theorem proved : Rows.NumberSignsCardSaid :=
  Claim7.holds_tied_plain_at .later [] _ _ _ _ said (fun _ h => by cases h) (by kernel_rfl) (fun _ h => by cases h) numberSigns_row_tie rfl ⟨rfl, rfl⟩ (by kernel_rfl) rfl plain (by kernel_rfl)
end Go.Proofs.YtdjjdhkpffjnfaaDoor.numberSigns
