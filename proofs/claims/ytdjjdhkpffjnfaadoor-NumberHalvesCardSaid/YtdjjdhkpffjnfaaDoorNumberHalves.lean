/- A float twice as great has the same digits and an exponent one higher. The library's tables and errors stand as the program's text lays them (the card ties them). -/
import Derived.Test.YtdjjdhkpffjnfaaDoorOpen
import Derived.Test.YtdjjdhkpffjnfaaDoorCards
import Derived.Test.YtdjjdhkpffjnfaaDoorTie
import Derived.Deep.DeepHandedRow
import Derived.Lib.LaidTab
import Derived.Test.YtdjjdhkpffjnfaaDoorNumLaid
import Derived.Test.YtdjjdhkpffjnfaaDoorNumRef4
namespace Go.Proofs.YtdjjdhkpffjnfaaDoor.numberHalves
open Go.ChangeShapes Go.WideShapes Go.ChangeAt Go.RowKit
open Go.ChangeMaps (open_string shut_string)
set_option linter.unusedVariables false

theorem and62 {x : Nat} (h : x < 18446744073709551616) : bits .and .u64 (x : Int) 9223372036854775807 = ((x % 9223372036854775808 : Nat) : Int) := by
  have := u64_and_nat x 9223372036854775807 h (by omega)
  rw [show x &&& 9223372036854775807 = x % 9223372036854775808 from Nat.and_two_pow_sub_one_eq_mod x 63] at this
  exact this
/-- the text of a great float, in its parts -/
theorem big_form {m : Nat} (h0 : 4611686018427387904 ≤ m) (h1 : m < 9218868437227405312) : formF m = ([48, 120, 49] ++ fracT (fracF m)) ++ 112 :: Lib.decDigits (m / 4503599627370496 - 1023) := by
  rw [formF_pos (by omega) (by omega), show m % 9223372036854775808 = m by omega, magT_pos (by omega) h1]
  have he : expoF m = ((m / 4503599627370496 - 1023 : Nat) : Int) := by unfold expoF; rw [if_neg (by omega)]; omega
  rw [he, expT_nn (by omega), Int.toNat_natCast]
  rfl
theorem frac_up {m : Nat} (h0 : 4611686018427387904 ≤ m) : fracF (m + 4503599627370496) = fracF m := by
  unfold fracF; rw [if_neg (by omega), if_neg (by omega)]; omega
theorem str_parts {S : ByteArray} {P R : List UInt8} (h : S.data.toList = P ++ 112 :: R) :
    S.size = P.length + 1 + R.length ∧ S.extract 0 P.length = ⟨P.toArray⟩ ∧ S.extract (P.length + 1) S.size = ⟨R.toArray⟩ ∧ (∀ k (hk : k < S.size), k < P.length → S[k] ∈ P) ∧ (∀ hk : P.length < S.size, S[P.length].toNat = 112) := by
  have hs : S.size = P.length + 1 + R.length := by rw [Lib.size_eq, h, List.length_append, List.length_cons]; omega
  refine ⟨hs, ?_, ?_, ?_, ?_⟩
  · apply ba_ext; rw [Lib.extract_data, h]; simp
  · apply ba_ext; rw [Lib.extract_to_end, h, List.drop_append, List.drop_eq_nil_of_le (by omega)]; simp
  · intro k hk hlt
    have := byte_at S k hk
    rw [h, List.getElem?_append_left hlt] at this
    exact List.mem_of_getElem? this
  · intro hk
    have := byte_at S P.length hk
    rw [h, List.getElem?_append_right (Nat.le_refl _), Nat.sub_self] at this
    simp at this
    rw [← this]; rfl

set_option maxRecDepth 100000 in
set_option maxHeartbeats 2000000 in
theorem walk (w : World) (hT : Tabs w) {b : Int} (hb : 0 ≤ b ∧ b ≤ 18446744073709551615) :
    Calls Tryd.prog 11 #[.int .u64 b] w fun e w' => e = .returned (.bool true) ∧ Below w.heap.size w w' := by
  obtain ⟨x, hx⟩ := Int.eq_ofNat_of_zero_le hb.1
  have HS := Lib.hid (nspeaks w hT)
  have HT := Lib.hid hT
  obtain ⟨m, hm⟩ : ∃ m, m = x % 9223372036854775808 := ⟨_, rfl⟩
  have ea := and62 (x := x) (by omega)
  rw [← hm] at ea
  obtain ⟨mi, hmi⟩ : ∃ mi : Int, mi = (m : Int) := ⟨_, rfl⟩
  rw [← hmi, ← hx] at ea
  obtain ⟨E, hE⟩ : ∃ E : Int, E = mi / 4503599627370496 := ⟨_, rfl⟩
  have hE' : mi / 4503599627370496 = E := hE.symm
  by_cases hr : 1024 ≤ E ∧ E ≤ 2045
  case neg =>
    have hr' : E < 1024 ∨ (1024 ≤ E ∧ 2045 < E) := by omega
    have m0 : 0 ≤ mi := by omega
    have m1 : mi < 9223372036854775808 := by omega
    clear hT hx hb hm hmi hE hr
    rcases hr' with h | ⟨h, h2⟩
    all_goals
      go_enter Tryd.func11, Tryd.ntmps11
      go_wp2_with fail
      refine HS.out.mono ?_
      rintro e w1 ⟨rfl, hb1⟩
      have HB1 := Lib.hid hb1
      clear hb1
      go_wp2
      go_ret
      exact ⟨rfl, HB1.out⟩
  case pos =>
    obtain ⟨r1, r2⟩ := hr
    have h0 : 4611686018427387904 ≤ m := by omega
    have h1 : m < 9214364837600034816 := by omega
    have hf1 := big_form h0 (by omega)
    obtain ⟨q, hq⟩ : ∃ q, q = m + 4503599627370496 := ⟨_, rfl⟩
    have hf2 := big_form (m := q) (by omega) (by omega)
    rw [show fracF q = fracF m by rw [hq]; exact frac_up h0] at hf2
    have hFl := fracT_len (fracF m)
    obtain ⟨P, hP⟩ : ∃ P, P = [48, 120, 49] ++ fracT (fracF m) := ⟨_, rfl⟩
    have hPl : P.length ≤ 17 := by rw [hP, List.length_append]; simp; omega
    have hPn : Hid (∀ y ∈ P, noPM y) := Lib.hid (by
      rw [hP]
      intro y hy
      rcases List.mem_append.1 hy with h | h
      · simp only [List.mem_cons, List.not_mem_nil, or_false] at h
        rcases h with rfl | rfl | rfl <;> (unfold noPM; decide)
      · exact fracT_noPM _ y h)
    rw [← hP] at hf1 hf2
    obtain ⟨n1, hn1⟩ : ∃ n1 : Nat, n1 = m / 4503599627370496 - 1023 := ⟨_, rfl⟩
    have hn2 : q / 4503599627370496 - 1023 = n1 + 1 := by omega
    rw [← hn1] at hf1
    rw [hn2] at hf2
    have hnE : E - 1023 = (n1 : Int) := by omega
    have hn1b : n1 < 1100 := by omega
    have hd1 := dd_len (n := n1) (by omega)
    have hd2 := dd_len (n := n1 + 1) (by omega)
    obtain ⟨S, hS⟩ : ∃ S : ByteArray, S = ⟨(formF m).toArray⟩ := ⟨_, rfl⟩
    obtain ⟨T, hTT⟩ : ∃ T : ByteArray, T = ⟨(formF q).toArray⟩ := ⟨_, rfl⟩
    have HF1 : Hid (∀ w', Tabs w' → Calls Tryd.prog 17 #[.int .u64 mi] w' fun e' w'' => e' = .returned (.string S) ∧ Below w'.heap.size w' w'') := Lib.hid fun w' h => by rw [hmi, hS]; exact FormatFloat_any m w' h (by omega)
    obtain ⟨qi, hqi⟩ : ∃ qi : Int, qi = (q : Int) := ⟨_, rfl⟩
    have HF2 : Hid (∀ w', Tabs w' → Calls Tryd.prog 17 #[.int .u64 qi] w' fun e' w'' => e' = .returned (.string T) ∧ Below w'.heap.size w' w'') := Lib.hid fun w' h => by
      rw [hqi, hTT]; exact FormatFloat_any q w' h (by omega)
    obtain ⟨s1, s2, s3, s4, s5⟩ := str_parts (S := S) (P := P) (R := Lib.decDigits n1) (by rw [hS]; exact hf1)
    obtain ⟨t1, t2, t3, t4, t5⟩ := str_parts (S := T) (P := P) (R := Lib.decDigits (n1 + 1)) (by rw [hTT]; exact hf2)
    obtain ⟨K, hK⟩ : ∃ K, K = P.length := ⟨_, rfl⟩
    rw [← hK] at s1 s2 s3 s4 s5 t1 t2 t3 t4 t5 hPl
    have hlS : K < S.size := by omega
    have hlT : K < T.size := by omega
    have hkS1 : K + 1 ≤ S.size := by omega
    have hkT1 : K + 1 ≤ T.size := by omega
    have hSs : S.size ≤ 30 := by omega
    have hTs : T.size ≤ 30 := by omega
    have i1 : Lib.itoa (n1 : Int) = Lib.decDigits n1 := by rw [itoa_nn (by omega), Int.toNat_natCast]
    have i2 : Lib.itoa ((n1 : Int) + 1) = Lib.decDigits (n1 + 1) := by rw [itoa_nn (by omega)]; congr 1
    have HP1 : Hid (∀ w', Tabs w' → Calls Tryd.prog 15 #[.string (S.extract (K + 1) S.size)] w' fun e w'' => e = .returned (.tuple #[.int .i64 (E - 1023), .int .i64 0]) ∧ Below w'.heap.size w' w'') := Lib.hid fun w' h => by
      rw [s3, hnE, ← i1]
      refine (ParseInt_any ⟨(Lib.itoa (n1 : Int)).toArray⟩ w' h (by rw [str_size, i1]; omega)).mono fun e w'' ⟨he, hb⟩ => ⟨?_, hb⟩
      rw [he, show (⟨(Lib.itoa (n1 : Int)).toArray⟩ : ByteArray).data.toList = Lib.itoa (n1 : Int) from rfl, parseI_itoa (by omega) (by omega)]
    have HP2 : Hid (∀ w', Tabs w' → Calls Tryd.prog 15 #[.string (T.extract (K + 1) T.size)] w' fun e w'' => e = .returned (.tuple #[.int .i64 (E - 1023 + 1), .int .i64 0]) ∧ Below w'.heap.size w' w'') := Lib.hid fun w' h => by
      rw [t3, hnE, ← i2]
      refine (ParseInt_any ⟨(Lib.itoa ((n1 : Int) + 1)).toArray⟩ w' h (by rw [str_size, i2]; omega)).mono fun e w'' ⟨he, hb⟩ => ⟨?_, hb⟩
      rw [he, show (⟨(Lib.itoa ((n1 : Int) + 1)).toArray⟩ : ByteArray).data.toList = Lib.itoa ((n1 : Int) + 1) from rfl, parseI_itoa (by omega) (by omega)]
    have H4 : Hid (∀ k (hk : k < S.size), k < K → S[k].toNat ≠ 112) := Lib.hid fun k hk hlt => by
      have := hPn.out _ (s4 k hk hlt)
      unfold noPM at this; exact this.1
    have eS : ((S[K].toNat : Int) != 112) = false := by rw [bne_eq_false_iff_eq]; have := s5 hlS; omega
    have eT : ((T[K].toNat : Int) != 112) = false := by rw [bne_eq_false_iff_eq]; have := t5 hlT; omega
    obtain ⟨Q, hQ⟩ : ∃ Q : ByteArray, Q = ⟨P.toArray⟩ := ⟨_, rfl⟩
    rw [← hQ] at s2 t2
    have eQ : (Q.toList == Q.toList) = true := by simp
    have m0 : 0 ≤ mi := by omega
    have m1 : mi < 9214364837600034816 := by omega
    have hqm : mi + 4503599627370496 = qi := by omega
    clear hT hx hb hm hmi hE h0 h1 hf1 hf2 hFl hP hn1 hn2 hnE hn1b hd1 hd2 hS hTT hqi hq s1 s3 s4 s5 t1 t3 t4 t5 hK i1 i2 hQ
    go_enter Tryd.func11, Tryd.ntmps11
    go_wp2_with fail
    refine HS.out.mono ?_
    rintro e w1 ⟨rfl, hb1⟩
    have HB1 := Lib.hid hb1
    clear hb1
    go_wp2_with fail
    refine (HF1.out _ (HT.out.below HB1.out (Nat.le_refl _))).mono ?_
    rintro e w2 ⟨rfl, hb2⟩
    have HB2 := Lib.hid (HB1.out.trans (hb2.mono HB1.out.size))
    clear hb2
    go_wp2_with fail
    refine (HF2.out _ (HT.out.below HB2.out (Nat.le_refl _))).mono ?_
    rintro e w3 ⟨rfl, hb3⟩
    have HB3 := Lib.hid (HB2.out.trans (hb3.mono HB2.out.size))
    clear hb3
    go_wp2
    go_loop [7] (fun i => ∃ k : Nat, k ≤ K ∧ i = .int .i64 k) (fun i => K - (intOf i).toNat)
    case atStart => exact ⟨0, by omega, rfl⟩
    case round =>
      obtain ⟨k, hk, rfl⟩ := hrel
      by_cases hlt : k < K
      · have hkS : k < S.size := by omega
        have ek : ((S[k].toNat : Int) != 112) = true := by rw [bne_iff_ne]; have := H4.out k hkS hlt; omega
        go_wp2
        go_round
        case rel => exact ⟨k + 1, by omega, by go_num⟩
        case measure => simp [intOf]; omega
      · obtain rfl : k = K := by omega
        clear hlt
        have g1 : decide ((S.size : Int) ≤ (k : Int)) = false := by rw [decide_eq_false_iff_not]; omega
        have g2 : decide ((T.size : Int) ≤ (k : Int)) = false := by rw [decide_eq_false_iff_not]; omega
        have hkS0 : k ≤ S.size := by omega
        have hkT0 : k ≤ T.size := by omega
        go_wp2
        go_quiet (fail)
        go_wp2_with fail
        refine (HP1.out _ (HT.out.below (below_drewN HB3.out _) (Nat.le_refl _))).mono ?_
        rintro e w4 ⟨rfl, hb4⟩
        have HB4 := Lib.hid ((below_drewN HB3.out _).trans (hb4.mono (below_drewN HB3.out _).size))
        clear hb4
        go_wp2_with fail
        refine (HP2.out _ (HT.out.below HB4.out (Nat.le_refl _))).mono ?_
        rintro e w5 ⟨rfl, hb5⟩
        have HB5 := Lib.hid (HB4.out.trans (hb5.mono HB4.out.size))
        clear hb5
        go_wp2
        go_ret
        exact ⟨ret_bool' (by first | rfl | simp), HB5.out⟩

/-! ### THE ROW's STEP -/
theorem own : ownKnob Tryd.prog.godebug = none := by kernel_rfl
theorem laidOut : laidOutB Tryd.prog = true := by kernel_rfl

set_option maxRecDepth 100000 in
theorem contract (H : Type) (enc : TypeId × Value → H) (W : World) (base : Nat) (args : Array Value) (ds gs : List (DataW H)) (before : List MemPlace)
    (hval0 : ∀ (j : Nat) t v, Tryd.f11.params[j]? = some t → args[j]? = some v → Value.okWide Tryd.prog W .any base t v)
    (hW : DataW.Whole enc Tryd.prog Tryd.f11.params.toList Rows.numberHalvesSpec.vars false W args.toList ds gs before)
    (hsz : (DataW.weightsEach Tryd.prog (Tryd.f11.params.toList ++ (OpenSpec.ofChange Rows.numberHalvesSpec).bare.plain.varTypes Tryd.prog) (ds ++ gs)).all (· ≤ reachBytes) = true) (hL : laidMetH Tryd.prog Rows.numberHalvesRow.laid W) :
    Calls Tryd.prog 11 args W fun e W' => ∃ v, e = .returned v ∧ Rows.numberHalvesSpec.post enc Tryd.prog Tryd.f11 false true false false W args v W' := by
  have hval : ∀ (j : Nat) t v, Tryd.f11.params[j]? = some t → args[j]? = some v → Value.okWide Tryd.prog W .any base t v := hval0
  have hW' := hW
  have hTab := Lib.hid (tabs_of hL)
  clear hL
  obtain ⟨p, q, hA0, hV, rfl, hfz, hnd⟩ := hW
  have hA : DataW.TrodAll enc Tryd.prog W 0 (fun _ => true) true Tryd.f11.params.toList args.toList ds p := hA0
  rw [Tryd.params11] at hA hval
  obtain ⟨v0, vs0, d0, ds0, p0, q0, hargs, rfl, rfl, h0, r0⟩ := trodAll_cons hA
  obtain ⟨rfl, rfl, rfl⟩ := trodAll_nil r0
  obtain rfl : args = #[v0] := by cases args; simp_all
  obtain ⟨rfl, rfl⟩ := trodVars_none hV
  have k0 := h0
  have lt0 : ∀ x ∈ p0, x.block < W.heap.size := by obtain ⟨m, hm⟩ := k0; exact DataW.trod_lt m _ _ _ hm
  have w0 := reach_at hsz (j := 0) rfl rfl
  clear hA0 hval0 hsz
  obtain ⟨a0, rfl, rfl, rfl, wf0⟩ := open_int Tryd.underlying31 (hval 0 31 v0 rfl rfl) h0
  refine (walk W hTab.out (bounds_u64 wf0)).mono fun e W' ⟨he, bel⟩ => ?_
  subst he
  exact ⟨_, rfl, _, _, _, [], _, [], hW', trodAll_mk1 (shut_bool Tryd.underlying4 _), (trodAll_cons_mk (Below.trod laidOut (by kernel_rfl) (of_decide_eq_true (by kernel_rfl)) k0 bel lt0) trodAll_mk0), rfl, bel.frame _, fun h => by cases h⟩

set_option maxRecDepth 100000 in
theorem laid_met (os : Os) : laidMet Tryd.prog Rows.numberHalvesRow.laid ((laidWorldN os).forCall (fun _ _ => 0) ⟨#[], #[.int .u64 0], []⟩).memory :=
  laidMet_of_run3 8 (by kernel_rfl) (by kernel_rfl) (by kernel_rfl)
theorem reads (os : Os) {H : Type} (enc : TypeId × Value → H) : ∃ places, DataW.whole enc Tryd.prog ((laidWorldN os).forCall (fun _ _ => 0) ⟨#[], #[.int .u64 0], []⟩).memory Tryd.f11.params.toList Rows.numberHalvesSpec.vars false (#[.int .u64 0] : Array Value).toList 8 = some ([.lit (.int .u64 0)], [], places) :=
  ⟨[], by kernel_rfl⟩

set_option maxRecDepth 100000 in
theorem lifted (os : Os) (started : os.Started) (H : Type) (enc : TypeId × Value → H) (F : Stop.Interp) :
    ReturnsInHanded {} Tryd.checked os 11 .any ((OpenSpec.ofChange Rows.numberHalvesSpec).preRow enc Tryd.prog Tryd.f11 Rows.numberHalvesRow.domain false Rows.numberHalvesRow.laid) (((OpenSpec.ofChange Rows.numberHalvesSpec).at F).post enc Tryd.prog Tryd.f11 false true false false) := by
  obtain ⟨places, hx⟩ := reads os enc
  refine returnsInHanded_of_row (C := Tryd.checked) (s := (OpenSpec.ofChange Rows.numberHalvesSpec)) own started (by kernel_rfl) Tryd.func11
    (witness_row_at (enc := enc) (C := Tryd.checked) false (laidWorldN os) #[.int .u64 0] rfl (by kernel_rfl) (by kernel_rfl) (by kernel_rfl)
      (OpenSpec.preRow_of_cond 8 hx (by kernel_rfl) (fun k hk => by cases hk) (by kernel_rfl) (laid_met os))) ?_
  intro W base args ds gs before hval hW _ hcond hsz hL _ _
  exact contract H enc W base args ds gs before hval hW hsz hL

theorem said : Rows.NumberHalvesSaid :=
  OpenClaim.holds_of_cond 11 Tryd.f11 rfl rfl rfl rfl rfl rfl rfl ⟨rfl, rfl, rfl, rfl, rfl⟩ rfl rfl rfl rfl rfl (by kernel_rfl) Tryd.func11 (by kernel_rfl)
    (of_decide_eq_true (by kernel_rfl)) (by unfold Func.isWrapper; rw [if_neg (of_decide_eq_false (by kernel_rfl))]; exact ⟨rfl, rfl⟩)
    (fun os started H enc _ F => by rw [OpenClaim.pre_eq_preRow]; exact lifted os started H enc F)

theorem noStandIn : ∀ t ∈ ([31] : List TypeId), Tryd.prog.wantsStandIn t = false := by
  intro t ht
  simp only [List.mem_cons, List.not_mem_nil, or_false] at ht
  rcases ht with rfl
  · exact (show Tryd.prog.wantsStandIn 31 = false by kernel_rfl)
theorem plain (f : FuncId) (fn : Func) (hf : Tryd.pinned.checked.prog.funcNamed "satchel/satchellaw05.NumberHalves" = some f) (hfn : Tryd.pinned.checked.prog.funcs[f]? = some fn) :
    true = Tryd.pinned.checked.prog.looks [] ∧ ∀ (j : Nat) t, fn.params[j]? = some t → Tryd.pinned.checked.prog.wantsStandIn t = false := by
  obtain rfl : f = 11 := Option.some.inj ((show Tryd.prog.funcNamed "satchel/satchellaw05.NumberHalves" = some 11 by kernel_rfl).symm.trans hf) |>.symm
  obtain rfl : fn = Tryd.f11 := (Option.some.inj (Tryd.func11.symm.trans hfn)).symm
  refine ⟨by kernel_rfl, fun j t ht => ?_⟩
  rw [Tryd.params11] at ht
  exact noStandIn t (by simpa using Array.mem_of_getElem? ht)

/-- THE CARD -/
theorem proved : Rows.NumberHalvesCardSaid :=
  Claim7.holds_tied_plain_at .later [] _ _ _ _ said (fun _ h => by cases h) (by kernel_rfl) (fun _ h => by cases h) numberHalves_row_tie rfl ⟨rfl, rfl⟩ (by kernel_rfl) rfl plain (by kernel_rfl)
end Go.Proofs.YtdjjdhkpffjnfaaDoor.numberHalves
