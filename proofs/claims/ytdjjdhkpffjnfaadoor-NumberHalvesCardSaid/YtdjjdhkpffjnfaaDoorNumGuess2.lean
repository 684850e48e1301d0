/- Layer 5: the exponent that a text may stand for. -/
import Derived.Test.YtdjjdhkpffjnfaaDoorNumGuess
import Derived.Lib.AtoiAll
namespace Go.Proofs.YtdjjdhkpffjnfaaDoor
open Go.RowKit
set_option linter.unusedVariables false

theorem parseUint10_dig : ∀ (l : List UInt8) (a : Nat), l.all isDig = true → a < 18446744073709551616 →
    Lib.parseUint10 a l = if vald a l < 18446744073709551616 then .ok (vald a l) else .range
  | [], a, _, ha => by rw [vald_nil, if_pos ha, Lib.parseUint10]
  | c :: r, a, h, ha => by
    simp only [List.all_cons, Bool.and_eq_true] at h
    have hc : 48 ≤ c.toNat ∧ c.toNat ≤ 57 := of_decide_eq_true h.1
    have hge := vald_ge r (a * 10 + (c.toNat - 48))
    rw [vald_cons, Lib.parseUint10, if_pos hc]
    by_cases h1 : 1844674407370955162 ≤ a
    · rw [if_pos h1, if_neg (by omega)]
    · rw [if_neg h1]
      by_cases h2 : 18446744073709551616 ≤ a * 10 + (c.toNat - 48)
      · rw [if_pos h2, if_neg (by omega)]
      · rw [if_neg h2]
        exact parseUint10_dig r _ h.2 (by omega)
theorem atoi_dd {n : Nat} (h : n < 9223372036854775808) : Lib.atoiAll (Lib.decDigits n) = .ok (n : Int) := by
  have h1 := dd_all n
  have h2 := parseUint10_dig _ 0 h1 (by omega)
  rw [dd_val, if_pos (by omega)] at h2
  have h3 := dd_ne n
  generalize Lib.decDigits n = l at h1 h2 h3
  cases l with
  | nil => exact absurd rfl h3
  | cons c r =>
    simp only [List.all_cons, Bool.and_eq_true] at h1
    have hc : 48 ≤ c.toNat ∧ c.toNat ≤ 57 := of_decide_eq_true h1.1
    have e : (if c.toNat = 43 ∨ c.toNat = 45 then r else c :: r) = c :: r := if_neg (by omega)
    unfold Lib.atoiAll
    simp only [e, Lib.parseMag, if_neg h3, h2]
    rw [if_neg (by omega), if_neg (by omega), if_neg (by omega)]
theorem atoi_bd {l : List UInt8} {v : Int} (h : Lib.atoiAll l = .ok v) : -9223372036854775808 ≤ v ∧ v ≤ 9223372036854775807 := by
  unfold Lib.atoiAll at h
  cases l with
  | nil => cases h
  | cons c r =>
    simp only at h
    generalize Lib.parseMag (if c.toNat = 43 ∨ c.toNat = 45 then r else c :: r) = M at h
    cases M with
    | «syntax» => cases h
    | range => cases h
    | ok u =>
      simp only at h
      split at h
      · cases h
      · split at h
        · cases h
        · injection h with h
          subst h
          split <;> omega

/-- what is known of Atoi's answer -/
def AT (r : List UInt8) (w : World) (e : Ending) (w' : World) : Prop :=
  ∃ (v : Int) (X : Value), -9223372036854775808 ≤ v ∧ v ≤ 9223372036854775807 ∧ e = .returned (.tuple #[.int .i64 v, X]) ∧ (∀ n : Nat, n < 9223372036854775808 → r = Lib.decDigits n → v = n) ∧ Below w.heap.size w w'
theorem atoi_any (s : ByteArray) (w : World) (hT : Tabs w) (hs : s.size ≤ 281474976710656) :
    Calls Tryd.prog 62 #[.string s] w (AT s.data.toList w) := by
  cases h : Lib.atoiAll s.data.toList with
  | ok v =>
    obtain ⟨a, b⟩ := atoi_bd h
    refine (Tryd.strconv_Atoi_ok s (by omega) v h w).mono fun e w' ⟨he, hw⟩ => ⟨v, _, a, b, he, fun n hn hr => ?_, ?_⟩
    · rw [hr, atoi_dd hn] at h; injection h with h; exact h.symm
    · rcases hw with rfl | ⟨t, rfl⟩
      · exact Below.refl _ _
      · exact Lib.bytesWorld_below _ _ _
  | «syntax» =>
    obtain ⟨tp, p, hv⟩ := hT.es
    refine (Tryd.strconv_Atoi_syntax_var s hs h tp p w hv).mono fun e w' ⟨N, he, _, _, hb⟩ => ⟨0, _, by omega, by omega, he, fun n hn hr => ?_, hb⟩
    rw [hr, atoi_dd hn] at h; cases h
  | range =>
    obtain ⟨tp, p, hv⟩ := hT.er
    refine (Tryd.strconv_Atoi_range_var s hs h tp p w hv).mono fun e w' ⟨N, he, _, _, hb⟩ => ⟨_, _, ?_, ?_, he, fun n hn hr => ?_, hb⟩
    · unfold Lib.atoiSat; split <;> omega
    · unfold Lib.atoiSat; split <;> omega
    · rw [hr, atoi_dd hn] at h; cases h

/-- what is known of guessExponent's answer -/
def GE (l : List UInt8) (w : World) (e : Ending) (w' : World) : Prop :=
  ∃ x : Int, -1074 ≤ x ∧ x ≤ 1023 ∧ e = .returned (.int .i64 x) ∧ (∀ y : Int, -1074 ≤ y → y ≤ 1023 → l = expT y → x = y) ∧ Below w.heap.size w w'
theorem ge_m {r : List UInt8} {v : Int} {w w' : World} (hv : ∀ n : Nat, n < 9223372036854775808 → r = Lib.decDigits n → v = n) (hb : Below w.heap.size w w') {z : Int} (hz : z = -v ∨ v = -9223372036854775808) :
    GE (109 :: r) w (.returned (.int .i64 (min (max z (-1074)) 1023))) w' :=
  ⟨_, by omega, by omega, rfl, fun y h0 h1 hl => by
    by_cases hn : y < 0
    · rw [expT_neg hn] at hl
      injection hl with _ hl
      have := hv _ (by omega) hl
      omega
    · rw [expT_nn hn] at hl
      injection hl with hl _
      exact absurd hl (by decide), hb⟩
theorem ge_p {c : UInt8} {r : List UInt8} {v : Int} {w w' : World} (hc : c.toNat ≠ 109) (hv : ∀ n : Nat, n < 9223372036854775808 → r = Lib.decDigits n → v = n) (hb : Below w.heap.size w w') :
    GE (c :: r) w (.returned (.int .i64 (min (max v (-1074)) 1023))) w' :=
  ⟨_, by omega, by omega, rfl, fun y h0 h1 hl => by
    by_cases hn : y < 0
    · rw [expT_neg hn] at hl
      injection hl with hl _
      subst hl
      exact absurd rfl hc
    · rw [expT_nn hn] at hl
      injection hl with _ hl
      have := hv _ (by omega) hl
      omega, hb⟩

set_option maxRecDepth 100000 in
set_option maxHeartbeats 1000000 in
theorem guessExponent_any (c : UInt8) (r : List UInt8) (w : World) (hT : Tabs w) (hs : r.length ≤ 140737488355328) :
    Calls Tryd.prog 42 #[.string ⟨(c :: r).toArray⟩] w (GE (c :: r) w) := by
  have HA := Lib.hid (atoi_any ⟨r.toArray⟩ w hT (by rw [str_size]; omega))
  have HE := Lib.hid (ext_tail c r)
  obtain ⟨S, hS⟩ : ∃ S : ByteArray, S = ⟨(c :: r).toArray⟩ := ⟨_, rfl⟩
  have hsz : S.size = r.length + 1 := by rw [hS, str_size]; rfl
  have h1 : 1 ≤ S.size := by omega
  have h0 : 0 < S.size := by omega
  have h2 : S.size ≤ 140737488355329 := by omega
  have hc0 : S[0] = c := by subst hS; rfl
  have HE2 : Hid (S.extract 1 S.size = ⟨r.toArray⟩) := Lib.hid (by rw [hsz, hS]; exact HE.out)
  rw [← hS]
  clear hT hS HE hsz
  have hcb := c.toNat_lt
  by_cases hm : c.toNat = 109
  · obtain rfl : c = 109 := UInt8.toNat_inj.1 (by rw [hm]; rfl)
    have hm' : ((S[0].toNat : Int) == 109) = true := by rw [hc0]; rfl
    clear hm hcb hc0
    go_enter Tryd.func42, Tryd.ntmps42
    go_wp2_with fail
    rw [HE2.out]
    refine HA.out.mono ?_
    rintro e w1 ⟨v, X, a, b, rfl, hv, hb⟩
    have Hv := Lib.hid hv
    have Hb := Lib.hid hb
    clear hv hb
    go_wp2
    go_ret
    exact ge_m Hv.out Hb.out (by
      by_cases hmin : v = -9223372036854775808
      · exact .inr hmin
      · left; unfold wrap64; omega)
  · have hm' : ((S[0].toNat : Int) == 109) = false := by rw [hc0, beq_eq_false_iff_ne]; omega
    have Hm := Lib.hid hm
    clear hm hcb hc0
    go_enter Tryd.func42, Tryd.ntmps42
    go_wp2_with fail
    rw [HE2.out]
    refine HA.out.mono ?_
    rintro e w1 ⟨v, X, a, b, rfl, hv, hb⟩
    have Hv := Lib.hid hv
    have Hb := Lib.hid hb
    clear hv hb
    go_wp2
    go_ret
    exact ge_p Hm.out Hv.out Hb.out
end Go.Proofs.YtdjjdhkpffjnfaaDoor
