/- Layer 5, the document's own answer: floats read. -/
import Derived.Test.YthmgkjfohkadoaaGreatDoorNumRefB
import Derived.Test.YthmgkjfohkadoaaGreatDoorNumRefH3
import Derived.Test.YthmgkjfohkadoaaGreatDoorNumRefH4
namespace Go.Proofs.YthmgkjfohkadoaaGreatDoor
open Go.RowKit
set_option linter.unusedVariables false

set_option maxRecDepth 100000 in
set_option maxHeartbeats 1000000 in
theorem refGuess_small (s : ByteArray) (w : World) (h : s.size < 5) : Calls Tryz.prog 62 #[.string s] w fun e w' => e = .returned (.int .u64 0) ∧ w = w' := by
  go_enter Tryz.func62, Tryz.ntmps62
  go_wp2
  go_ret
  exact ⟨rfl, rfl⟩
theorem refGuess_any (s : ByteArray) (w : World) (hs : s.size ≤ 140737488355328) : Calls Tryz.prog 62 #[.string s] w (GS s.data.toList w) := by
  by_cases h5 : s.size < 5
  · refine (refGuess_small s w h5).mono fun e w' ⟨he, hw⟩ => ⟨0, by omega, he, fun m h0 h1 hl => ?_, hw⟩
    obtain ⟨_, _, _, _, _, _, _, _, _, _, _, _, _, _, _, hl5⟩ := mag_parts h0 h1 hl
    rw [← Lib.size_eq] at hl5
    omega
  · by_cases h : (s[3]'(by omega)).toNat = 46
    · exact refGuess4 s w hs (by omega) h
    · exact refGuess3 s w hs (by omega) h

theorem read_ref {l : List UInt8} {g v : Nat} (hn : l ≠ nanT) (hg : ∀ m, m ≤ 9218868437227405312 → cutNeg l = magT m → g = m) (hv : v = if isNeg l then 9223372036854775808 + g else g) :
    (g ≤ 9218868437227405312 → canon v) ∧ ((9218868437227405312 < g ∨ formF v ≠ l) → ∀ b, b < 18446744073709551616 → formF b ≠ l) := by
  constructor
  · intro h
    refine ⟨by rw [hv]; split <;> omega, .inl ?_⟩
    rw [hv]; split <;> omega
  · intro h b hb hl
    by_cases hnan : 9218868437227405312 < b % 9223372036854775808
    · rw [formF_nan hnan] at hl; exact hn hl.symm
    · obtain ⟨a1, a2, a3, a4⟩ := neg_mag (b % 9223372036854775808)
      by_cases hneg : 9223372036854775808 ≤ b
      · have hl2 := hl
        rw [formF_neg hnan hneg] at hl
        rw [← hl, a4] at hg
        rw [← hl, a3] at hv
        have hgm := hg _ (by omega) rfl
        have hvb : v = b := by rw [hv, if_pos rfl]; omega
        rcases h with h | h
        · omega
        · exact h (by rw [hvb]; exact hl2)
      · have hl2 := hl
        rw [formF_pos hnan hneg] at hl
        rw [← hl, a2] at hg
        rw [← hl, a1] at hv
        have hgm := hg _ (by omega) rfl
        have hvb : v = b := by rw [hv, if_neg (by simp)]; omega
        rcases h with h | h
        · omega
        · exact h (by rw [hvb]; exact hl2)

set_option maxRecDepth 100000 in
set_option maxHeartbeats 400000 in
theorem refPF_nan (w : World) : Calls Tryz.prog 49 #[.string ⟨#[48, 120, 110, 97, 110]⟩] w fun e w' => e = .returned (.tuple #[.int .u64 9221120237041090560, .int .i64 0]) ∧ w = w' := by
  go_enter Tryz.func49, Tryz.ntmps49
  go_wp2
  go_ret2
  exact ⟨rfl, rfl⟩
/-- what is known of the document's ParseFloat -/
def PFr (l : List UInt8) (w : World) (e : Ending) (w' : World) : Prop :=
  ∃ (v : Nat) (c : Int), e = .returned (.tuple #[.int .u64 v, .int .i64 c]) ∧ ReadF l v c ∧ Below w.heap.size w w'
end Go.Proofs.YthmgkjfohkadoaaGreatDoor

/- Layer 5, the document's own answer: floats read. -/
namespace Go.Proofs.YthmgkjfohkadoaaGreatDoor
open Go.RowKit
set_option linter.unusedVariables false

set_option maxRecDepth 100000 in
set_option maxHeartbeats 1000000 in
theorem refPF0 (s : ByteArray) (w : World) (hs : s.size ≤ 140737488355328) (hn : s.data.toList ≠ nanT) (hneg : isNeg s.data.toList = false) (hpos : 0 < s.size) :
    Calls Tryz.prog 49 #[.string s] w (PFr s.data.toList w) := by
  have e0 : (s.toList == [48, 120, 110, 97, 110]) = false := by rw [Lib.toList_data, beq_eq_false_iff_ne]; exact hn
  have hsl : s.data.toList.length = s.size := (Lib.size_eq s).symm
  have hat : ∀ h : 0 < s.size, s.data.toList[0]? = some s[0] := fun h => byte_at s 0 h
  obtain ⟨l, hl⟩ : ∃ l, l = s.data.toList := ⟨_, rfl⟩
  rw [← hl] at hneg hsl hat hn ⊢
  have HN := Lib.hid hn
  have HNEG := Lib.hid hneg
  have HL : Hid (l = s.data.toList) := Lib.hid hl
  have hcut : cutNeg l = l := by
    cases hl2 : l with
    | nil => rfl
    | cons c r =>
      rw [hl2] at hneg
      simp only [isNeg, beq_eq_false_iff_ne] at hneg
      unfold cutNeg; simp [hneg]
  have hTl : s.data.toList = cutNeg l := by rw [hcut, hl]
  have hTs := hs
  have e45 : ((s[0].toNat : Int) == 45) = false := by
    have h1 := hat hpos
    cases hl2 : l with
    | nil => rw [hl2] at h1; cases h1
    | cons c r =>
      rw [hl2] at h1 hneg
      simp at h1
      subst h1
      simp only [isNeg, beq_eq_false_iff_ne] at hneg ⊢
      omega
  have HG := Lib.hid fun w => refGuess_any s w hTs
  rw [hTl] at HG
  have HTL := Lib.hid hTl
  have HCUT := Lib.hid hcut
  by_cases hi : cutNeg l = [48, 120, 105, 110, 102]
  · have e2 : (s.toList == [48, 120, 105, 110, 102]) = true := by rw [Lib.toList_data, HTL.out, hi]; rfl
    have e3 : (s.toList == [48, 120, 48]) = false := by rw [Lib.toList_data, HTL.out, hi]; rfl
    have hform : formF 9218868437227405312 = l := by
      have h1 : l = magT 9218868437227405312 := by rw [← HCUT.out, hi, magT_inf]
      rw [h1]; exact (formF_pos (b := 9218868437227405312) (by omega) (by omega))
    have hcan : canon 9218868437227405312 := ⟨by omega, .inl (by omega)⟩
    have HF : Hid (∀ w, Calls Tryz.prog 63 #[.int .u64 9218868437227405312] w fun e w' => e = .returned (.string ⟨(formF 9218868437227405312).toArray⟩) ∧ Below w.heap.size w w') := Lib.hid fun w => refFormatFloat 9218868437227405312 w (by omega)
    obtain ⟨S, hS⟩ : ∃ S : ByteArray, S = ⟨(formF 9218868437227405312).toArray⟩ := ⟨_, rfl⟩
    rw [← hS] at HF
    have e1 : (S.toList == s.toList) = true := by rw [Lib.toList_data, Lib.toList_data, hS, hform, HL.out]; simp
    have hfin : Hid (∀ w', Below w.heap.size w w' → PFr l w (.returned (.tuple #[.int .u64 9218868437227405312, .int .i64 0])) w') := Lib.hid fun w' hb => ⟨9218868437227405312, 0, rfl, .inl ⟨rfl, hcan, hform⟩, hb⟩

    clear hS hform hcan hi
    clear hneg hsl hat hn hl hcut hTl HCUT
    go_enter Tryz.func49, Tryz.ntmps49
    go_wp2_with fail
    refine (HG.out _).mono ?_
    rintro e w' ⟨g0, hg0, rfl, hgm, rfl⟩
    obtain ⟨G0, hG0⟩ : ∃ G0 : Int, G0 = (g0 : Int) := ⟨_, rfl⟩
    rw [← hG0]
    clear hgm hG0 hg0
    go_wp2_with fail
    refine (HF.out _).mono ?_
    rintro e w1 ⟨rfl, hb1⟩
    have HB1 := Lib.hid hb1
    clear hb1
    go_wp2
    go_ret2
    exact hfin.out _ HB1.out
  · have e2 : (s.toList == [48, 120, 105, 110, 102]) = false := by rw [Lib.toList_data, HTL.out, beq_eq_false_iff_ne]; exact hi
    have HI := Lib.hid hi
    clear hi
    by_cases hi : cutNeg l = [48, 120, 48]
    · have e3 : (s.toList == [48, 120, 48]) = true := by rw [Lib.toList_data, HTL.out, hi]; rfl
      have hform : formF 0 = l := by
        have h1 : l = magT 0 := by rw [← HCUT.out, hi]; rfl
        rw [h1]; exact (formF_pos (b := 0) (by omega) (by omega))
      have hcan : canon 0 := ⟨by omega, .inl (by omega)⟩
      have HF : Hid (∀ w, Calls Tryz.prog 63 #[.int .u64 0] w fun e w' => e = .returned (.string ⟨(formF 0).toArray⟩) ∧ Below w.heap.size w w') := Lib.hid fun w => refFormatFloat 0 w (by omega)
      obtain ⟨S, hS⟩ : ∃ S : ByteArray, S = ⟨(formF 0).toArray⟩ := ⟨_, rfl⟩
      rw [← hS] at HF
      have e1 : (S.toList == s.toList) = true := by rw [Lib.toList_data, Lib.toList_data, hS, hform, HL.out]; simp
      have hfin : Hid (∀ w', Below w.heap.size w w' → PFr l w (.returned (.tuple #[.int .u64 0, .int .i64 0])) w') := Lib.hid fun w' hb => ⟨0, 0, rfl, .inl ⟨rfl, hcan, hform⟩, hb⟩

      clear hS hform hcan hi
      clear hneg hsl hat hn hl hcut hTl HCUT
      go_enter Tryz.func49, Tryz.ntmps49
      go_wp2_with fail
      refine (HG.out _).mono ?_
      rintro e w' ⟨g0, hg0, rfl, hgm, rfl⟩
      obtain ⟨G0, hG0⟩ : ∃ G0 : Int, G0 = (g0 : Int) := ⟨_, rfl⟩
      rw [← hG0]
      clear hgm hG0 hg0
      go_wp2_with fail
      refine (HF.out _).mono ?_
      rintro e w1 ⟨rfl, hb1⟩
      have HB1 := Lib.hid hb1
      clear hb1
      go_wp2
      go_ret2
      exact hfin.out _ HB1.out
    · have e3 : (s.toList == [48, 120, 48]) = false := by rw [Lib.toList_data, HTL.out, beq_eq_false_iff_ne]; exact hi
      have HZ := Lib.hid hi
      clear hi
      clear hneg hsl hat hn hl hcut hTl HCUT
      go_enter Tryz.func49, Tryz.ntmps49
      go_wp2_with fail
      refine (HG.out _).mono ?_
      rintro e w' ⟨g, hg0, rfl, hgm, rfl⟩
      have hg : Hid (∀ m, m ≤ 9218868437227405312 → cutNeg l = magT m → g = m) := Lib.hid fun m hm he => by
        rcases Nat.eq_zero_or_pos m with rfl | h0
        · exact absurd he HZ.out
        · by_cases hinf : m = 9218868437227405312
          · subst hinf; rw [magT_inf] at he; exact absurd he HI.out
          · exact hgm m h0 (by omega) he
      obtain ⟨G, hGg⟩ : ∃ G : Int, G = (g : Int) := ⟨_, rfl⟩
      rw [← hGg]
      have hG0 : 0 ≤ G := by omega
      have hG1 : G ≤ 9223372036854775808 := by omega
      have hG2 := hGg
      clear hgm
      have HR := Lib.hid fun v hv => read_ref (l := l) (g := g) (v := v) HN.out hg.out hv
      obtain ⟨v, hv⟩ : ∃ v : Nat, v = g := ⟨_, rfl⟩
      have HRv := Lib.hid (HR.out v (by rw [HNEG.out]; exact hv))
      have hvi : G = (v : Int) := by omega
      by_cases hbig : G ≤ 9218868437227405312
      · have hg1 : g ≤ 9218868437227405312 := by omega
        have HF : Hid (∀ w, Calls Tryz.prog 63 #[.int .u64 G] w fun e w' => e = .returned (.string ⟨(formF v).toArray⟩) ∧ Below w.heap.size w w') := Lib.hid fun w => by
          rw [hvi]; exact refFormatFloat v w (by omega)
        have HC := Lib.hid (HRv.out.1 hg1)
        obtain ⟨S, hS⟩ : ∃ S : ByteArray, S = ⟨(formF v).toArray⟩ := ⟨_, rfl⟩
        rw [← hS] at HF
        by_cases hq : formF v = l
        · have e1 : (S.toList == s.toList) = true := by rw [Lib.toList_data, Lib.toList_data, hS, hq, HL.out]; simp
          have hfin : Hid (∀ w', Below w.heap.size w w' → PFr l w (.returned (.tuple #[.int .u64 G, .int .i64 0])) w') := Lib.hid fun w' hb => ⟨v, 0, by rw [hvi], .inl ⟨rfl, HC.out, hq⟩, hb⟩
          clear hS hq hg1 hv hvi hg0 hG2 hGg
          go_wp2_with fail
          refine (HF.out _).mono ?_
          rintro e w1 ⟨rfl, hb1⟩
          have HB1 := Lib.hid hb1
          clear hb1
          go_wp2
          go_ret2
          exact hfin.out _ HB1.out
        · have e1 : (S.toList == s.toList) = false := by rw [Lib.toList_data, Lib.toList_data, hS, ← HL.out, beq_eq_false_iff_ne]; exact hq
          have hfin : Hid (∀ w', Below w.heap.size w w' → PFr l w (.returned (.tuple #[.int .u64 0, .int .i64 52])) w') := Lib.hid fun w' hb => ⟨0, 52, rfl, .inr ⟨rfl, rfl, HRv.out.2 (.inr hq)⟩, hb⟩
          clear hS hq hg1 hv hvi hg0 hG2 hGg
          go_wp2_with fail
          refine (HF.out _).mono ?_
          rintro e w1 ⟨rfl, hb1⟩
          have HB1 := Lib.hid hb1
          clear hb1
          go_wp2
          go_ret2
          exact hfin.out _ HB1.out
      · have hbig' : 9218868437227405312 < G := by omega
        have hfin : Hid (PFr l w (.returned (.tuple #[.int .u64 0, .int .i64 52])) w) := Lib.hid ⟨0, 52, rfl, .inr ⟨rfl, rfl, HRv.out.2 (.inl (by omega))⟩, Below.refl _ _⟩
        clear hbig hv hvi hg0 hG2 hGg
        go_wp2
        go_ret2
        exact hfin.out

end Go.Proofs.YthmgkjfohkadoaaGreatDoor

/- Layer 5, the document's own answer: floats read. -/
namespace Go.Proofs.YthmgkjfohkadoaaGreatDoor
open Go.RowKit
set_option linter.unusedVariables false

set_option maxRecDepth 100000 in
set_option maxHeartbeats 1000000 in
theorem refPFE (s : ByteArray) (w : World) (hs : s.size ≤ 140737488355328) (hn : s.data.toList ≠ nanT) (hneg : isNeg s.data.toList = false) (hpos : s.size ≤ 0) :
    Calls Tryz.prog 49 #[.string s] w (PFr s.data.toList w) := by
  have e0 : (s.toList == [48, 120, 110, 97, 110]) = false := by rw [Lib.toList_data, beq_eq_false_iff_ne]; exact hn
  have hsl : s.data.toList.length = s.size := (Lib.size_eq s).symm
  have hat : ∀ h : 0 < s.size, s.data.toList[0]? = some s[0] := fun h => byte_at s 0 h
  obtain ⟨l, hl⟩ : ∃ l, l = s.data.toList := ⟨_, rfl⟩
  rw [← hl] at hneg hsl hat hn ⊢
  have HN := Lib.hid hn
  have HNEG := Lib.hid hneg
  have HL : Hid (l = s.data.toList) := Lib.hid hl
  have hcut : cutNeg l = l := by
    cases hl2 : l with
    | nil => rfl
    | cons c r =>
      rw [hl2] at hneg
      simp only [isNeg, beq_eq_false_iff_ne] at hneg
      unfold cutNeg; simp [hneg]
  have hTl : s.data.toList = cutNeg l := by rw [hcut, hl]
  have hTs := hs
  have HG := Lib.hid fun w => refGuess_any s w hTs
  rw [hTl] at HG
  have HTL := Lib.hid hTl
  have HCUT := Lib.hid hcut
  by_cases hi : cutNeg l = [48, 120, 105, 110, 102]
  · have e2 : (s.toList == [48, 120, 105, 110, 102]) = true := by rw [Lib.toList_data, HTL.out, hi]; rfl
    have e3 : (s.toList == [48, 120, 48]) = false := by rw [Lib.toList_data, HTL.out, hi]; rfl
    have hform : formF 9218868437227405312 = l := by
      have h1 : l = magT 9218868437227405312 := by rw [← HCUT.out, hi, magT_inf]
      rw [h1]; exact (formF_pos (b := 9218868437227405312) (by omega) (by omega))
    have hcan : canon 9218868437227405312 := ⟨by omega, .inl (by omega)⟩
    have HF : Hid (∀ w, Calls Tryz.prog 63 #[.int .u64 9218868437227405312] w fun e w' => e = .returned (.string ⟨(formF 9218868437227405312).toArray⟩) ∧ Below w.heap.size w w') := Lib.hid fun w => refFormatFloat 9218868437227405312 w (by omega)
    obtain ⟨S, hS⟩ : ∃ S : ByteArray, S = ⟨(formF 9218868437227405312).toArray⟩ := ⟨_, rfl⟩
    rw [← hS] at HF
    have e1 : (S.toList == s.toList) = true := by rw [Lib.toList_data, Lib.toList_data, hS, hform, HL.out]; simp
    have hfin : Hid (∀ w', Below w.heap.size w w' → PFr l w (.returned (.tuple #[.int .u64 9218868437227405312, .int .i64 0])) w') := Lib.hid fun w' hb => ⟨9218868437227405312, 0, rfl, .inl ⟨rfl, hcan, hform⟩, hb⟩

    clear hS hform hcan hi
    clear hneg hsl hat hn hl hcut hTl HCUT
    go_enter Tryz.func49, Tryz.ntmps49
    go_wp2_with fail
    refine (HG.out _).mono ?_
    rintro e w' ⟨g0, hg0, rfl, hgm, rfl⟩
    obtain ⟨G0, hG0⟩ : ∃ G0 : Int, G0 = (g0 : Int) := ⟨_, rfl⟩
    rw [← hG0]
    clear hgm hG0 hg0
    go_wp2_with fail
    refine (HF.out _).mono ?_
    rintro e w1 ⟨rfl, hb1⟩
    have HB1 := Lib.hid hb1
    clear hb1
    go_wp2
    go_ret2
    exact hfin.out _ HB1.out
  · have e2 : (s.toList == [48, 120, 105, 110, 102]) = false := by rw [Lib.toList_data, HTL.out, beq_eq_false_iff_ne]; exact hi
    have HI := Lib.hid hi
    clear hi
    by_cases hi : cutNeg l = [48, 120, 48]
    · have e3 : (s.toList == [48, 120, 48]) = true := by rw [Lib.toList_data, HTL.out, hi]; rfl
      have hform : formF 0 = l := by
        have h1 : l = magT 0 := by rw [← HCUT.out, hi]; rfl
        rw [h1]; exact (formF_pos (b := 0) (by omega) (by omega))
      have hcan : canon 0 := ⟨by omega, .inl (by omega)⟩
      have HF : Hid (∀ w, Calls Tryz.prog 63 #[.int .u64 0] w fun e w' => e = .returned (.string ⟨(formF 0).toArray⟩) ∧ Below w.heap.size w w') := Lib.hid fun w => refFormatFloat 0 w (by omega)
      obtain ⟨S, hS⟩ : ∃ S : ByteArray, S = ⟨(formF 0).toArray⟩ := ⟨_, rfl⟩
      rw [← hS] at HF
      have e1 : (S.toList == s.toList) = true := by rw [Lib.toList_data, Lib.toList_data, hS, hform, HL.out]; simp
      have hfin : Hid (∀ w', Below w.heap.size w w' → PFr l w (.returned (.tuple #[.int .u64 0, .int .i64 0])) w') := Lib.hid fun w' hb => ⟨0, 0, rfl, .inl ⟨rfl, hcan, hform⟩, hb⟩

      clear hS hform hcan hi
      clear hneg hsl hat hn hl hcut hTl HCUT
      go_enter Tryz.func49, Tryz.ntmps49
      go_wp2_with fail
      refine (HG.out _).mono ?_
      rintro e w' ⟨g0, hg0, rfl, hgm, rfl⟩
      obtain ⟨G0, hG0⟩ : ∃ G0 : Int, G0 = (g0 : Int) := ⟨_, rfl⟩
      rw [← hG0]
      clear hgm hG0 hg0
      go_wp2_with fail
      refine (HF.out _).mono ?_
      rintro e w1 ⟨rfl, hb1⟩
      have HB1 := Lib.hid hb1
      clear hb1
      go_wp2
      go_ret2
      exact hfin.out _ HB1.out
    · have e3 : (s.toList == [48, 120, 48]) = false := by rw [Lib.toList_data, HTL.out, beq_eq_false_iff_ne]; exact hi
      have HZ := Lib.hid hi
      clear hi
      clear hneg hsl hat hn hl hcut hTl HCUT
      go_enter Tryz.func49, Tryz.ntmps49
      go_wp2_with fail
      refine (HG.out _).mono ?_
      rintro e w' ⟨g, hg0, rfl, hgm, rfl⟩
      have hg : Hid (∀ m, m ≤ 9218868437227405312 → cutNeg l = magT m → g = m) := Lib.hid fun m hm he => by
        rcases Nat.eq_zero_or_pos m with rfl | h0
        · exact absurd he HZ.out
        · by_cases hinf : m = 9218868437227405312
          · subst hinf; rw [magT_inf] at he; exact absurd he HI.out
          · exact hgm m h0 (by omega) he
      obtain ⟨G, hGg⟩ : ∃ G : Int, G = (g : Int) := ⟨_, rfl⟩
      rw [← hGg]
      have hG0 : 0 ≤ G := by omega
      have hG1 : G ≤ 9223372036854775808 := by omega
      have hG2 := hGg
      clear hgm
      have HR := Lib.hid fun v hv => read_ref (l := l) (g := g) (v := v) HN.out hg.out hv
      obtain ⟨v, hv⟩ : ∃ v : Nat, v = g := ⟨_, rfl⟩
      have HRv := Lib.hid (HR.out v (by rw [HNEG.out]; exact hv))
      have hvi : G = (v : Int) := by omega
      by_cases hbig : G ≤ 9218868437227405312
      · have hg1 : g ≤ 9218868437227405312 := by omega
        have HF : Hid (∀ w, Calls Tryz.prog 63 #[.int .u64 G] w fun e w' => e = .returned (.string ⟨(formF v).toArray⟩) ∧ Below w.heap.size w w') := Lib.hid fun w => by
          rw [hvi]; exact refFormatFloat v w (by omega)
        have HC := Lib.hid (HRv.out.1 hg1)
        obtain ⟨S, hS⟩ : ∃ S : ByteArray, S = ⟨(formF v).toArray⟩ := ⟨_, rfl⟩
        rw [← hS] at HF
        by_cases hq : formF v = l
        · have e1 : (S.toList == s.toList) = true := by rw [Lib.toList_data, Lib.toList_data, hS, hq, HL.out]; simp
          have hfin : Hid (∀ w', Below w.heap.size w w' → PFr l w (.returned (.tuple #[.int .u64 G, .int .i64 0])) w') := Lib.hid fun w' hb => ⟨v, 0, by rw [hvi], .inl ⟨rfl, HC.out, hq⟩, hb⟩
          clear hS hq hg1 hv hvi hg0 hG2 hGg
          go_wp2_with fail
          refine (HF.out _).mono ?_
          rintro e w1 ⟨rfl, hb1⟩
          have HB1 := Lib.hid hb1
          clear hb1
          go_wp2
          go_ret2
          exact hfin.out _ HB1.out
        · have e1 : (S.toList == s.toList) = false := by rw [Lib.toList_data, Lib.toList_data, hS, ← HL.out, beq_eq_false_iff_ne]; exact hq
          have hfin : Hid (∀ w', Below w.heap.size w w' → PFr l w (.returned (.tuple #[.int .u64 0, .int .i64 52])) w') := Lib.hid fun w' hb => ⟨0, 52, rfl, .inr ⟨rfl, rfl, HRv.out.2 (.inr hq)⟩, hb⟩
          clear hS hq hg1 hv hvi hg0 hG2 hGg
          go_wp2_with fail
          refine (HF.out _).mono ?_
          rintro e w1 ⟨rfl, hb1⟩
          have HB1 := Lib.hid hb1
          clear hb1
          go_wp2
          go_ret2
          exact hfin.out _ HB1.out
      · have hbig' : 9218868437227405312 < G := by omega
        have hfin : Hid (PFr l w (.returned (.tuple #[.int .u64 0, .int .i64 52])) w) := Lib.hid ⟨0, 52, rfl, .inr ⟨rfl, rfl, HRv.out.2 (.inl (by omega))⟩, Below.refl _ _⟩
        clear hbig hv hvi hg0 hG2 hGg
        go_wp2
        go_ret2
        exact hfin.out

end Go.Proofs.YthmgkjfohkadoaaGreatDoor

/- Layer 5, the document's own answer: floats read. -/
namespace Go.Proofs.YthmgkjfohkadoaaGreatDoor
open Go.RowKit
set_option linter.unusedVariables false

set_option maxRecDepth 100000 in
set_option maxHeartbeats 1000000 in
theorem refPF1 (s : ByteArray) (w : World) (hs : s.size ≤ 140737488355328) (hn : s.data.toList ≠ nanT) (hneg : isNeg s.data.toList = true) :
    Calls Tryz.prog 49 #[.string s] w (PFr s.data.toList w) := by
  have e0 : (s.toList == [48, 120, 110, 97, 110]) = false := by rw [Lib.toList_data, beq_eq_false_iff_ne]; exact hn
  have hsl : s.data.toList.length = s.size := (Lib.size_eq s).symm
  have hat : ∀ h : 0 < s.size, s.data.toList[0]? = some s[0] := fun h => byte_at s 0 h
  obtain ⟨l, hl⟩ : ∃ l, l = s.data.toList := ⟨_, rfl⟩
  rw [← hl] at hneg hsl hat hn ⊢
  have HN := Lib.hid hn
  have HNEG := Lib.hid hneg
  have HL : Hid (l = s.data.toList) := Lib.hid hl
  obtain ⟨c, r, hcr⟩ : ∃ c r, l = c :: r := by
    cases hl2 : l with
    | nil => rw [hl2] at hneg; cases hneg
    | cons c r => exact ⟨c, r, rfl⟩
  have hc : c.toNat = 45 := by rw [hcr] at hneg; simpa [isNeg] using hneg
  have h0 : 0 < s.size := by rw [← hsl, hcr]; simp
  have hc0 : s[0] = c := by
    have := hat h0
    rw [hcr] at this
    simp at this
    exact this.symm
  have e45 : ((s[0].toNat : Int) == 45) = true := by rw [hc0, beq_iff_eq]; omega
  have hcut : cutNeg l = r := by rw [hcr]; unfold cutNeg; simp [hc]
  obtain ⟨T, hT⟩ : ∃ T : ByteArray, T = ⟨r.toArray⟩ := ⟨_, rfl⟩
  have hex : s.extract 1 s.size = T := by
    apply ba_ext
    rw [Lib.extract_to_end, hT, ← hl, hcr]; rfl
  have hTl : T.data.toList = cutNeg l := by rw [hT, hcut]
  have hTs : T.size ≤ 140737488355328 := by
    rw [hT, str_size]
    have : l.length = r.length + 1 := by rw [hcr]; rfl
    omega
  have HG := Lib.hid fun w => refGuess_any T w hTs
  rw [hTl] at HG
  have HTL := Lib.hid hTl
  have HCUT := Lib.hid hcut
  by_cases hi : cutNeg l = [48, 120, 105, 110, 102]
  · have e2 : (T.toList == [48, 120, 105, 110, 102]) = true := by rw [Lib.toList_data, HTL.out, hi]; rfl
    have e3 : (T.toList == [48, 120, 48]) = false := by rw [Lib.toList_data, HTL.out, hi]; rfl
    have hform : formF 18442240474082181120 = l := by
      have h1 : l = 45 :: magT 9218868437227405312 := by rw [hcr, ← hcut, hi, magT_inf]; congr 1; exact UInt8.toNat_inj.1 (by rw [hc]; rfl)
      rw [h1]; exact (formF_neg (b := 18442240474082181120) (by omega) (by omega))
    have hcan : canon 18442240474082181120 := ⟨by omega, .inl (by omega)⟩
    have HF : Hid (∀ w, Calls Tryz.prog 63 #[.int .u64 18442240474082181120] w fun e w' => e = .returned (.string ⟨(formF 18442240474082181120).toArray⟩) ∧ Below w.heap.size w w') := Lib.hid fun w => refFormatFloat 18442240474082181120 w (by omega)
    obtain ⟨S, hS⟩ : ∃ S : ByteArray, S = ⟨(formF 18442240474082181120).toArray⟩ := ⟨_, rfl⟩
    rw [← hS] at HF
    have e1 : (S.toList == s.toList) = true := by rw [Lib.toList_data, Lib.toList_data, hS, hform, HL.out]; simp
    have hfin : Hid (∀ w', Below w.heap.size w w' → PFr l w (.returned (.tuple #[.int .u64 18442240474082181120, .int .i64 0])) w') := Lib.hid fun w' hb => ⟨18442240474082181120, 0, rfl, .inl ⟨rfl, hcan, hform⟩, hb⟩

    clear hS hform hcan hi
    clear hneg hsl hat hn hl hcr hc hc0 hcut hT hTl HCUT
    go_enter Tryz.func49, Tryz.ntmps49
    go_wp2_with fail
    refine (HG.out _).mono ?_
    rintro e w' ⟨g0, hg0, rfl, hgm, rfl⟩
    obtain ⟨G0, hG0⟩ : ∃ G0 : Int, G0 = (g0 : Int) := ⟨_, rfl⟩
    rw [← hG0]
    clear hgm hG0 hg0
    go_wp2_with fail
    refine (HF.out _).mono ?_
    rintro e w1 ⟨rfl, hb1⟩
    have HB1 := Lib.hid hb1
    clear hb1
    go_wp2
    go_ret2
    exact hfin.out _ HB1.out
  · have e2 : (T.toList == [48, 120, 105, 110, 102]) = false := by rw [Lib.toList_data, HTL.out, beq_eq_false_iff_ne]; exact hi
    have HI := Lib.hid hi
    clear hi
    by_cases hi : cutNeg l = [48, 120, 48]
    · have e3 : (T.toList == [48, 120, 48]) = true := by rw [Lib.toList_data, HTL.out, hi]; rfl
      have hform : formF 9223372036854775808 = l := by
        have h1 : l = 45 :: magT 0 := by rw [hcr, ← hcut, hi]; congr 1; exact UInt8.toNat_inj.1 (by rw [hc]; rfl)
        rw [h1]; exact (formF_neg (b := 9223372036854775808) (by omega) (by omega))
      have hcan : canon 9223372036854775808 := ⟨by omega, .inl (by omega)⟩
      have HF : Hid (∀ w, Calls Tryz.prog 63 #[.int .u64 9223372036854775808] w fun e w' => e = .returned (.string ⟨(formF 9223372036854775808).toArray⟩) ∧ Below w.heap.size w w') := Lib.hid fun w => refFormatFloat 9223372036854775808 w (by omega)
      obtain ⟨S, hS⟩ : ∃ S : ByteArray, S = ⟨(formF 9223372036854775808).toArray⟩ := ⟨_, rfl⟩
      rw [← hS] at HF
      have e1 : (S.toList == s.toList) = true := by rw [Lib.toList_data, Lib.toList_data, hS, hform, HL.out]; simp
      have hfin : Hid (∀ w', Below w.heap.size w w' → PFr l w (.returned (.tuple #[.int .u64 9223372036854775808, .int .i64 0])) w') := Lib.hid fun w' hb => ⟨9223372036854775808, 0, rfl, .inl ⟨rfl, hcan, hform⟩, hb⟩

      clear hS hform hcan hi
      clear hneg hsl hat hn hl hcr hc hc0 hcut hT hTl HCUT
      go_enter Tryz.func49, Tryz.ntmps49
      go_wp2_with fail
      refine (HG.out _).mono ?_
      rintro e w' ⟨g0, hg0, rfl, hgm, rfl⟩
      obtain ⟨G0, hG0⟩ : ∃ G0 : Int, G0 = (g0 : Int) := ⟨_, rfl⟩
      rw [← hG0]
      clear hgm hG0 hg0
      go_wp2_with fail
      refine (HF.out _).mono ?_
      rintro e w1 ⟨rfl, hb1⟩
      have HB1 := Lib.hid hb1
      clear hb1
      go_wp2
      go_ret2
      exact hfin.out _ HB1.out
    · have e3 : (T.toList == [48, 120, 48]) = false := by rw [Lib.toList_data, HTL.out, beq_eq_false_iff_ne]; exact hi
      have HZ := Lib.hid hi
      clear hi
      clear hneg hsl hat hn hl hcr hc hc0 hcut hT hTl HCUT
      go_enter Tryz.func49, Tryz.ntmps49
      go_wp2_with fail
      refine (HG.out _).mono ?_
      rintro e w' ⟨g, hg0, rfl, hgm, rfl⟩
      have hg : Hid (∀ m, m ≤ 9218868437227405312 → cutNeg l = magT m → g = m) := Lib.hid fun m hm he => by
        rcases Nat.eq_zero_or_pos m with rfl | h0
        · exact absurd he HZ.out
        · by_cases hinf : m = 9218868437227405312
          · subst hinf; rw [magT_inf] at he; exact absurd he HI.out
          · exact hgm m h0 (by omega) he
      obtain ⟨G, hGg⟩ : ∃ G : Int, G = (g : Int) := ⟨_, rfl⟩
      rw [← hGg]
      have hG0 : 0 ≤ G := by omega
      have hG1 : G ≤ 9223372036854775808 := by omega
      have hG2 := hGg
      clear hgm
      have HR := Lib.hid fun v hv => read_ref (l := l) (g := g) (v := v) HN.out hg.out hv
      obtain ⟨v, hv⟩ : ∃ v : Nat, v = 9223372036854775808 + g := ⟨_, rfl⟩
      have HRv := Lib.hid (HR.out v (by rw [HNEG.out]; exact hv))
      obtain ⟨vi, hvi⟩ : ∃ vi : Int, vi = (v : Int) := ⟨_, rfl⟩
      have hvG : 9223372036854775808 + G = vi := by omega
      by_cases hbig : G ≤ 9218868437227405312
      · have hg1 : g ≤ 9218868437227405312 := by omega
        have HF : Hid (∀ w, Calls Tryz.prog 63 #[.int .u64 vi] w fun e w' => e = .returned (.string ⟨(formF v).toArray⟩) ∧ Below w.heap.size w w') := Lib.hid fun w => by
          rw [hvi]; exact refFormatFloat v w (by omega)
        have HC := Lib.hid (HRv.out.1 hg1)
        obtain ⟨S, hS⟩ : ∃ S : ByteArray, S = ⟨(formF v).toArray⟩ := ⟨_, rfl⟩
        rw [← hS] at HF
        by_cases hq : formF v = l
        · have e1 : (S.toList == s.toList) = true := by rw [Lib.toList_data, Lib.toList_data, hS, hq, HL.out]; simp
          have hfin : Hid (∀ w', Below w.heap.size w w' → PFr l w (.returned (.tuple #[.int .u64 vi, .int .i64 0])) w') := Lib.hid fun w' hb => ⟨v, 0, by rw [hvi], .inl ⟨rfl, HC.out, hq⟩, hb⟩
          clear hS hq hg1 hv hvi hg0 hG2 hGg
          go_wp2_with fail
          refine (HF.out _).mono ?_
          rintro e w1 ⟨rfl, hb1⟩
          have HB1 := Lib.hid hb1
          clear hb1
          go_wp2
          go_ret2
          exact hfin.out _ HB1.out
        · have e1 : (S.toList == s.toList) = false := by rw [Lib.toList_data, Lib.toList_data, hS, ← HL.out, beq_eq_false_iff_ne]; exact hq
          have hfin : Hid (∀ w', Below w.heap.size w w' → PFr l w (.returned (.tuple #[.int .u64 0, .int .i64 52])) w') := Lib.hid fun w' hb => ⟨0, 52, rfl, .inr ⟨rfl, rfl, HRv.out.2 (.inr hq)⟩, hb⟩
          clear hS hq hg1 hv hvi hg0 hG2 hGg
          go_wp2_with fail
          refine (HF.out _).mono ?_
          rintro e w1 ⟨rfl, hb1⟩
          have HB1 := Lib.hid hb1
          clear hb1
          go_wp2
          go_ret2
          exact hfin.out _ HB1.out
      · have hbig' : 9218868437227405312 < G := by omega
        have hfin : Hid (PFr l w (.returned (.tuple #[.int .u64 0, .int .i64 52])) w) := Lib.hid ⟨0, 52, rfl, .inr ⟨rfl, rfl, HRv.out.2 (.inl (by omega))⟩, Below.refl _ _⟩
        clear hbig hv hvi hg0 hG2 hGg
        go_wp2
        go_ret2
        exact hfin.out

end Go.Proofs.YthmgkjfohkadoaaGreatDoor

/- Layer 5, the document's own answer: floats read. -/
namespace Go.Proofs.YthmgkjfohkadoaaGreatDoor
open Go.RowKit
set_option linter.unusedVariables false


theorem refParseFloat (s : ByteArray) (w : World) (hs : s.size ≤ 140737488355328) : Calls Tryz.prog 49 #[.string s] w (PFr s.data.toList w) := by
  by_cases hn : s.data.toList = nanT
  · obtain rfl : s = ⟨#[48, 120, 110, 97, 110]⟩ := (ba_eq s nanT).2 hn
    exact (refPF_nan w).mono fun e w' ⟨he, hw⟩ => ⟨9221120237041090560, 0, he, .inl ⟨rfl, ⟨by omega, .inr rfl⟩, formF_nan_own⟩, hw ▸ Below.refl _ _⟩
  · cases h : isNeg s.data.toList with
    | true => exact refPF1 s w hs hn h
    | false =>
      by_cases hp : 0 < s.size
      · exact refPF0 s w hs hn h hp
      · exact refPFE s w hs hn h (by omega)
end Go.Proofs.YthmgkjfohkadoaaGreatDoor
