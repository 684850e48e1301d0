/- Layer 5: FormatFloat; ParseInt. -/
import Derived.Test.YtdjjdhkpffjnfaaDoorNumFmt2
namespace Go.Proofs.YtdjjdhkpffjnfaaDoor
open Go.RowKit
set_option linter.unusedVariables false

theorem andNot63 {b : Nat} (h : b < 18446744073709551616) : bits .andNot .u64 (b : Int) 9223372036854775808 = ((b % 9223372036854775808 : Nat) : Int) := by
  have := u64_andNot_nat b 9223372036854775808 h (by omega)
  rw [show 18446744073709551615 - 9223372036854775808 = 9223372036854775807 by omega, show b &&& 9223372036854775807 = b % 9223372036854775808 from Nat.and_two_pow_sub_one_eq_mod b 63] at this
  exact this
theorem and63 {b : Nat} (h : b < 18446744073709551616) : bits .and .u64 (b : Int) 9223372036854775808 = if 9223372036854775808 ≤ b then 9223372036854775808 else 0 := by
  have := u64_and_nat b 9223372036854775808 h (by omega)
  have hb : b.testBit 63 = decide (9223372036854775808 ≤ b) := by
    rw [Nat.testBit_eq_decide_div_mod_eq, Bool.eq_iff_iff, decide_eq_true_eq, decide_eq_true_eq]; omega
  have e : b &&& 2 ^ 63 = if 9223372036854775808 ≤ b then 2 ^ 63 else 0 := by
    apply Nat.eq_of_testBit_eq
    intro i
    rw [Nat.testBit_and, Nat.testBit_two_pow]
    by_cases h1 : 9223372036854775808 ≤ b
    · rw [if_pos h1, Nat.testBit_two_pow]
      by_cases hi : 63 = i
      · subst hi; rw [hb, decide_eq_true h1]; rfl
      · rw [decide_eq_false hi, Bool.and_false]
    · rw [if_neg h1, Nat.zero_testBit]
      by_cases hi : 63 = i
      · subst hi; rw [hb, decide_eq_false h1]; rfl
      · rw [decide_eq_false hi, Bool.and_false]
  rw [show (9223372036854775808 : Nat) = 2 ^ 63 by decide, e] at this
  refine Eq.trans this ?_
  by_cases h1 : 9223372036854775808 ≤ b
  · rw [if_pos h1, if_pos h1]; rfl
  · rw [if_neg h1, if_neg h1]; rfl

theorem formF_nan {b : Nat} (h : 9218868437227405312 < b % 9223372036854775808) : formF b = nanT := by unfold formF; rw [if_pos h]
theorem formF_neg {b : Nat} (h : ¬ 9218868437227405312 < b % 9223372036854775808) (h2 : 9223372036854775808 ≤ b) : formF b = 45 :: magT (b % 9223372036854775808) := by unfold formF; rw [if_neg h, if_pos h2]
theorem formF_pos {b : Nat} (h : ¬ 9218868437227405312 < b % 9223372036854775808) (h2 : ¬ 9223372036854775808 ≤ b) : formF b = magT (b % 9223372036854775808) := by unfold formF; rw [if_neg h, if_neg h2]
theorem magT_len {m : Nat} (h : m ≤ 9218868437227405312) : (magT m).length ≤ 22 := by
  rcases Nat.eq_zero_or_pos m with rfl | h0
  · decide
  · by_cases h1 : m = 9218868437227405312
    · subst h1; rw [magT_inf]; decide
    · rw [magT_pos h0 (by omega)]
      have a := fracT_len (fracF m)
      obtain ⟨b, c⟩ := expoF_bd h0 (show m < 9218868437227405312 by omega)
      have d := expT_len b c
      simp; omega

set_option maxRecDepth 100000 in
set_option maxHeartbeats 400000 in
theorem FormatFloat_any (b : Nat) (w : World) (hT : Tabs w) (h : b < 18446744073709551616) :
    Calls Tryd.prog 17 #[.int .u64 b] w fun e' w' => e' = .returned (.string ⟨(formF b).toArray⟩) ∧ Below w.heap.size w w' := by
  have e1 := andNot63 h
  have e2 := and63 h
  have HT := Lib.hid hT
  obtain ⟨M, hM⟩ : ∃ M, M = b % 9223372036854775808 := ⟨_, rfl⟩
  rw [← hM] at e1
  by_cases h1 : 9218868437227405312 < b % 9223372036854775808
  · have HX := Lib.hid (formF_nan h1)
    have h2 : (9218868437227405312 : Int) < (M : Int) := by omega
    clear hT hM h1 e2
    generalize (M : Int) = m at *
    generalize formF b = R at *
    generalize (b : Int) = x at *
    clear h
    go_enter Tryd.func17, Tryd.ntmps17
    go_wp2
    go_ret
    exact ⟨ret_str' (by rw [HX.out]; rfl), Below.refl _ _⟩
  have HC : Hid (∀ w, Tabs w → Calls Tryd.prog 27 #[.int .u64 (M : Int)] w fun e' w' => e' = .returned (.string ⟨(magT M).toArray⟩) ∧ Below w.heap.size w w') := Lib.hid fun w hT => magnitude_any M w hT (by omega)
  have hl : (magT M).length ≤ 22 := magT_len (by omega)
  obtain ⟨S, hS⟩ : ∃ S : ByteArray, S = ⟨(magT M).toArray⟩ := ⟨_, rfl⟩
  have hs : S.size ≤ 22 := by rw [hS, str_size]; exact hl
  rw [← hS] at HC
  have HS := Lib.hid hS
  by_cases h2 : 9223372036854775808 ≤ b
  · have HX : Hid (formF b = 45 :: magT M) := Lib.hid (by rw [formF_neg h1 h2, hM])
    have h3 : (M : Int) ≤ (9218868437227405312 : Int) := by omega
    rw [if_pos h2] at e2
    have e3 : ((9223372036854775808 : Int) != 0) = true := by decide
    clear hT hM h1 hl hS h2
    generalize hQ : (⟨(45 :: magT M).toArray⟩ : ByteArray) = Q
    have HQ : Hid (⟨#[45]⟩ ++ S = Q) := Lib.hid (by rw [HS.out, ← hQ]; exact app_str [45] _)
    have HR : Hid ((⟨(formF b).toArray⟩ : ByteArray) = Q) := Lib.hid (by rw [HX.out, hQ])
    clear hQ HX HS
    generalize (M : Int) = m at *
    generalize (⟨(formF b).toArray⟩ : ByteArray) = R at *
    generalize (b : Int) = x at *
    clear h
    go_enter Tryd.func17, Tryd.ntmps17
    go_wp2_with fail
    refine (HC.out _ HT.out).mono ?_
    rintro e' w1 ⟨rfl, hb1⟩
    go_wp2
    go_ret
    exact ⟨ret_str' (by rw [HR.out]; exact HQ.out), hb1⟩
  · have HX : Hid (formF b = magT M) := Lib.hid (by rw [formF_pos h1 h2, hM])
    have h3 : (M : Int) ≤ (9218868437227405312 : Int) := by omega
    rw [if_neg h2] at e2
    clear hT hM h1 hl hS h2
    have HR : Hid ((⟨(formF b).toArray⟩ : ByteArray) = S) := Lib.hid (by rw [HX.out, HS.out])
    clear HX HS
    generalize (M : Int) = m at *
    generalize (⟨(formF b).toArray⟩ : ByteArray) = R at *
    generalize (b : Int) = x at *
    clear h
    go_enter Tryd.func17, Tryd.ntmps17
    go_wp2_with fail
    refine (HC.out _ HT.out).mono ?_
    rintro e' w1 ⟨rfl, hb1⟩
    go_wp2
    go_ret
    exact ⟨ret_str' HR.out.symm, hb1⟩

theorem trimNeg (l : List UInt8) : Lib.trimPrefix l [45] = cutNeg l := by
  unfold Lib.trimPrefix cutNeg
  cases l with
  | nil => rfl
  | cons c r =>
    by_cases e : c.toNat = 45
    · obtain rfl : c = 45 := UInt8.toNat_inj.1 (by rw [e]; rfl)
      simp [Lib.hasPrefix]
    · have e' : c ≠ 45 := fun h => e (by rw [h]; rfl)
      simp [Lib.hasPrefix, e, Ne.symm e']
end Go.Proofs.YtdjjdhkpffjnfaaDoor
