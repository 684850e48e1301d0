/- Layer 5: floats read. -/
import Derived.Test.YthmgkjfohkadoaaGreatDoorNumGuessA
namespace Go.Proofs.YthmgkjfohkadoaaGreatDoor
open Go.RowKit
set_option linter.unusedVariables false

set_option maxRecDepth 100000 in
set_option maxHeartbeats 400000 in
theorem guessMag_inf (w : World) :
    Calls Tryz.prog 56 #[.string ⟨#[48, 120, 105, 110, 102]⟩] w fun e w' => e = .returned (.int .u64 9218868437227405312) ∧ w = w' := by
  go_enter Tryz.func56, Tryz.ntmps56
  go_wp2
  go_ret
  exact ⟨rfl, rfl⟩
set_option maxRecDepth 100000 in
set_option maxHeartbeats 400000 in
theorem guessMag_nan (w : World) :
    Calls Tryz.prog 56 #[.string ⟨#[48, 120, 110, 97, 110]⟩] w fun e w' => e = .returned (.int .u64 9221120237041090560) ∧ w = w' := by
  go_enter Tryz.func56, Tryz.ntmps56
  go_wp2
  go_ret
  exact ⟨rfl, rfl⟩
theorem magT_head (m : Nat) : ∃ r, magT m = 48 :: 120 :: r ∧ r ≠ [] := by
  unfold magT
  split
  · exact ⟨_, rfl, by simp⟩
  · split
    · exact ⟨_, rfl, by simp⟩
    · exact ⟨_, rfl, by simp⟩
theorem magT_third {m : Nat} (h0 : 0 < m) (h : m < 9218868437227405312) : ∃ r, magT m = 48 :: 120 :: 49 :: r := ⟨_, magT_pos h0 h⟩
/-- magnitudes' texts: only infinity has its own, none is the NaN's -/
theorem magT_ne_nan {m : Nat} (h : m ≤ 9218868437227405312) : magT m ≠ nanT := by
  rcases Nat.eq_zero_or_pos m with rfl | h0
  · decide
  · by_cases hi : m = 9218868437227405312
    · subst hi; rw [magT_inf]; decide
    · obtain ⟨r, hr⟩ := magT_third h0 (show m < 9218868437227405312 by omega)
      rw [hr]; unfold nanT
      intro h
      injection h with _ h
      injection h with _ h
      injection h with h _
      exact absurd h (by decide)
theorem magT_inf_only {m : Nat} (h : m ≤ 9218868437227405312) (he : magT m = [48, 120, 105, 110, 102]) : m = 9218868437227405312 := by
  rcases Nat.eq_zero_or_pos m with rfl | h0
  · exact absurd he (by decide)
  · by_cases hi : m = 9218868437227405312
    · exact hi
    · obtain ⟨r, hr⟩ := magT_third h0 (show m < 9218868437227405312 by omega)
      rw [hr] at he
      injection he with _ h
      injection h with _ h
      injection h with h _
      exact absurd h (by decide)

theorem guessMagnitude_any (s : ByteArray) (w : World) (hT : Tabs w) (hs : s.size ≤ 140737488355328) :
    Calls Tryz.prog 56 #[.string s] w (GM s.data.toList w) := by
  by_cases h1 : s.data.toList = [48, 120, 105, 110, 102]
  · obtain rfl : s = ⟨#[48, 120, 105, 110, 102]⟩ := (ba_eq s _).2 h1
    exact (guessMag_inf w).mono fun e w' ⟨he, hw⟩ => ⟨9218868437227405312, by omega, he, fun m hm hl => (magT_inf_only hm hl.symm).symm, fun h => absurd h (by decide), hw ▸ Below.refl _ _⟩
  · by_cases h2 : s.data.toList = nanT
    · obtain rfl : s = ⟨#[48, 120, 110, 97, 110]⟩ := (ba_eq s nanT).2 h2
      exact (guessMag_nan w).mono fun e w' ⟨he, hw⟩ => ⟨9221120237041090560, by omega, he, fun m hm hl => absurd hl.symm (magT_ne_nan hm), fun _ => rfl, hw ▸ Below.refl _ _⟩
    · exact guessMag_tail s w hT hs h1 h2

/-- no NaN, or the one NaN that is read -/
def canon (b : Nat) : Prop := b < 18446744073709551616 ∧ (b % 9223372036854775808 ≤ 9218868437227405312 ∨ b = 9221120237041090560)
/-- what ParseFloat answers -/
def ReadF (l : List UInt8) (v : Nat) (c : Int) : Prop :=
  (c = 0 ∧ canon v ∧ formF v = l) ∨ (c = 52 ∧ v = 0 ∧ ∀ b, b < 18446744073709551616 → formF b ≠ l)
def PF (l : List UInt8) (w : World) (e : Ending) (w' : World) : Prop :=
  ∃ (v : Nat) (c : Int), e = .returned (.tuple #[.int .u64 v, .int .i64 c]) ∧ ReadF l v c ∧ Below w.heap.size w w'

theorem hasNeg (l : List UInt8) : Lib.hasPrefix l [45] = isNeg l := by
  unfold Lib.hasPrefix isNeg
  cases l with
  | nil => rfl
  | cons c r =>
    by_cases e : c.toNat = 45
    · obtain rfl : c = 45 := UInt8.toNat_inj.1 (by rw [e]; rfl)
      rfl
    · have e' : c ≠ 45 := fun h => e (by rw [h]; rfl)
      have e2 : (c.toNat == 45) = false := by rw [beq_eq_false_iff_ne]; exact e
      show _ = (c.toNat == 45)
      rw [e2]
      show ((45 : UInt8) == c && ([] : List UInt8).isPrefixOf r) = false
      rw [show ((45 : UInt8) == c) = false by rw [beq_eq_false_iff_ne]; exact Ne.symm e']
      rfl
theorem neg_mag (m : Nat) : isNeg (magT m) = false ∧ cutNeg (magT m) = magT m ∧ isNeg (45 :: magT m) = true ∧ cutNeg (45 :: magT m) = magT m := by
  obtain ⟨r, hr, _⟩ := magT_head m
  rw [hr]
  exact ⟨rfl, rfl, rfl, rfl⟩
theorem formF_nan_own : formF 9221120237041090560 = nanT := formF_nan (by decide)
theorem nan_neg : isNeg nanT = false ∧ cutNeg nanT = nanT := ⟨rfl, rfl⟩

/-- the float that was guessed is right, or nothing is -/
theorem read_of {l : List UInt8} {g : Nat} (hg : g ≤ 9221120237041090560) (h1 : ∀ m, m ≤ 9218868437227405312 → cutNeg l = magT m → g = m) (h2 : cutNeg l = nanT → g = 9221120237041090560) {v : Nat}
    (hv : v = if isNeg l then g + 9223372036854775808 else g) : (formF v = l → canon v) ∧ (formF v ≠ l → ∀ b, b < 18446744073709551616 → formF b ≠ l) := by
  have hv64 : v < 18446744073709551616 := by rw [hv]; split <;> omega
  constructor
  · intro h
    refine ⟨hv64, ?_⟩
    by_cases hn : 9218868437227405312 < v % 9223372036854775808
    · rw [formF_nan hn] at h
      rw [← h] at hv h2
      rw [nan_neg.1] at hv
      right
      rw [hv]
      exact h2 nan_neg.2
    · left; omega
  · intro h b hb hl
    apply h
    by_cases hn : 9218868437227405312 < b % 9223372036854775808
    · rw [formF_nan hn] at hl
      rw [← hl] at hv h2 ⊢
      rw [nan_neg.1] at hv
      have : v = 9221120237041090560 := by rw [hv]; exact h2 nan_neg.2
      rw [this, formF_nan_own]
    · obtain ⟨a1, a2, a3, a4⟩ := neg_mag (b % 9223372036854775808)
      by_cases hneg : 9223372036854775808 ≤ b
      · rw [formF_neg hn hneg] at hl
        rw [← hl, a4] at h1
        rw [← hl, a3] at hv
        have := h1 _ (by omega) rfl
        have hvb : v = b := by rw [hv, if_pos rfl]; omega
        rw [hvb, formF_neg hn hneg, hl]
      · rw [formF_pos hn hneg] at hl
        rw [← hl, a2] at h1
        rw [← hl, a1] at hv
        have := h1 _ (by omega) rfl
        have hvb : v = b := by rw [hv, if_neg (by simp)]; omega
        rw [hvb, formF_pos hn hneg, hl]
theorem or63 {g : Nat} (h : g ≤ 9221120237041090560) : bits .or .u64 (g : Int) 9223372036854775808 = ((g + 9223372036854775808 : Nat) : Int) := by
  have := u64_or_nat 9223372036854775808 g (by omega) (by omega)
  rw [nat_join 63 9223372036854775808 g (by decide) (by omega)] at this
  have h2 := u64_or_nat g 9223372036854775808 (by omega) (by omega)
  rw [Nat.or_comm, nat_join 63 9223372036854775808 g (by decide) (by omega)] at h2
  rw [Nat.add_comm]
  exact h2

set_option maxRecDepth 100000 in
set_option maxHeartbeats 1000000 in
theorem ParseFloat_any (s : ByteArray) (w : World) (hT : Tabs w) (hs : s.size ≤ 140737488355328) :
    Calls Tryz.prog 42 #[.string s] w (PF s.data.toList w) := by
  have HT := Lib.hid hT
  have hsl : s.data.toList.length = s.size := (Lib.size_eq s).symm
  have HC : Hid (∀ w, Calls Tryz.prog 55 #[.string s, .string ⟨#[45]⟩] w fun e w' => e = .returned (.tuple #[.string ⟨(cutNeg s.data.toList).toArray⟩, .bool (isNeg s.data.toList)]) ∧ w = w') := Lib.hid fun w =>
    (Tryz.strings_CutPrefix s ⟨#[45]⟩ w).mono fun e w' ⟨he, hw⟩ => ⟨by rw [he, show (⟨#[45]⟩ : ByteArray).data.toList = [45] from rfl, trimNeg, hasNeg], hw.symm⟩
  have HG := Lib.hid (guessMagnitude_any ⟨(cutNeg s.data.toList).toArray⟩ w hT (by rw [str_size]; have := cutNeg_len s.data.toList; omega))
  have HF : Hid (∀ v W, v < 18446744073709551616 → Tabs W → Calls Tryz.prog 57 #[.int .u64 ((v : Nat) : Int)] W fun e' w' => e' = .returned (.string ⟨(formF v).toArray⟩) ∧ Below W.heap.size W w') := Lib.hid fun v W hv hT => FormatFloat_any v W hT hv
  have HO := Lib.hid fun (g : Nat) h => @or63 g h
  obtain ⟨N, hN⟩ : ∃ N, N = isNeg s.data.toList := ⟨_, rfl⟩
  rw [← hN] at HC
  have HN := Lib.hid hN
  clear hT hsl hN
  go_enter Tryz.func42, Tryz.ntmps42
  go_wp2_with fail
  refine (HC.out _).mono ?_
  rintro e w1 ⟨rfl, rfl⟩
  go_wp2_with fail
  refine HG.out.mono ?_
  rintro e w1 ⟨g, hg, rfl, h1, h2, hb1⟩
  have Hg := Lib.hid hg
  have H1 := Lib.hid h1
  have H2 := Lib.hid h2
  have Hb1 := Lib.hid hb1
  have hT1 := Lib.hid (HT.out.below hb1 (Nat.le_refl _))
  have heq := HO.out g hg
  obtain ⟨v, hv⟩ : ∃ v, v = g + 9223372036854775808 := ⟨_, rfl⟩
  rw [← hv] at heq
  have HV := Lib.hid hv
  have hv64 : Hid (v < 18446744073709551616) := Lib.hid (by omega)
  have hg64 : Hid (g < 18446744073709551616) := Lib.hid (by omega)
  clear hg h1 h2 hb1 hv HG HC
  cases N with
  | true =>
    go_wp2_with fail
    refine (HF.out v _ hv64.out hT1.out).mono ?_
    rintro e w2 ⟨rfl, hb2⟩
    have HR := Lib.hid (read_of Hg.out H1.out H2.out (v := v) (by rw [← HN.out, if_pos rfl, HV.out]))
    have HB := Lib.hid (Hb1.out.trans (hb2.mono Hb1.out.size))
    clear heq hb2
    obtain ⟨S, hS⟩ : ∃ S : ByteArray, S = ⟨(formF v).toArray⟩ := ⟨_, rfl⟩
    rw [← hS]
    by_cases hq : formF v = s.data.toList
    · have e1 : (S.toList == s.toList) = true := by rw [Lib.toList_data, Lib.toList_data, hS, hq]; simp
      have HA := Lib.hid (HR.out.1 hq)
      have HQ := Lib.hid hq
      clear hS hq
      go_wp2
      go_ret2
      exact ⟨v, 0, rfl, .inl ⟨rfl, HA.out, HQ.out⟩, HB.out⟩
    · have e1 : (S.toList == s.toList) = false := by rw [Lib.toList_data, Lib.toList_data, hS, beq_eq_false_iff_ne]; exact hq
      have HA := Lib.hid (HR.out.2 hq)
      clear hS hq
      go_wp2
      go_ret2
      exact ⟨0, 52, rfl, .inr ⟨rfl, rfl, HA.out⟩, HB.out⟩
  | false =>
    go_wp2_with fail
    refine (HF.out g _ hg64.out hT1.out).mono ?_
    rintro e w2 ⟨rfl, hb2⟩
    have HR := Lib.hid (read_of Hg.out H1.out H2.out (v := g) (by rw [← HN.out, if_neg (by simp)]))
    have HB := Lib.hid (Hb1.out.trans (hb2.mono Hb1.out.size))
    clear heq hb2
    obtain ⟨S, hS⟩ : ∃ S : ByteArray, S = ⟨(formF g).toArray⟩ := ⟨_, rfl⟩
    rw [← hS]
    by_cases hq : formF g = s.data.toList
    · have e1 : (S.toList == s.toList) = true := by rw [Lib.toList_data, Lib.toList_data, hS, hq]; simp
      have HA := Lib.hid (HR.out.1 hq)
      have HQ := Lib.hid hq
      clear hS hq
      go_wp2
      go_ret2
      exact ⟨g, 0, rfl, .inl ⟨rfl, HA.out, HQ.out⟩, HB.out⟩
    · have e1 : (S.toList == s.toList) = false := by rw [Lib.toList_data, Lib.toList_data, hS, beq_eq_false_iff_ne]; exact hq
      have HA := Lib.hid (HR.out.2 hq)
      clear hS hq
      go_wp2
      go_ret2
      exact ⟨0, 52, rfl, .inr ⟨rfl, rfl, HA.out⟩, HB.out⟩
end Go.Proofs.YthmgkjfohkadoaaGreatDoor
