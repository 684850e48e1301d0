/- Layer 5, the document's own answer: floats read. -/
import Derived.Test.YtdjjdhkpffjnfaaDoorNumRefP
namespace Go.Proofs.YtdjjdhkpffjnfaaDoor
open Go.RowKit
set_option linter.unusedVariables false

set_option maxRecDepth 100000 in
set_option maxHeartbeats 1000000 in
theorem refPFE (s : ByteArray) (w : World) (hs : s.size ≤ 140737488355328) (hn : s.data.toList ≠ nanT) (hneg : isNeg s.data.toList = false) (hpos : s.size ≤ 0) :
    Calls Tryd.prog 20 #[.string s] w (PFr s.data.toList w) := by
  have e0 : (s.toList == [48, 120, 110, 97, 110]) = false := by rw [Lib.toList_data, beq_eq_false_iff_ne]; exact hn
  have hsl : s.data.toList.length = s.size := (Lib.size_eq s).symm
  have hat : ∀ h : 0 < s.size, s.data.toList[0]? = some s[0] := fun h => byte_at s 0 h
  obtain ⟨l, hl⟩ : ∃ l, l = s.data.toList := ⟨_, rfl⟩
  rw [← hl] at hneg hsl hat hn ⊢
  have HN := Lib.hid hn
  have HNEG := Lib.hid hneg
  have HL : Hid (l = s.data.toList) := Lib.hid hl
  have hcut : cutNeg l = l := by
    cases hl2 : l with
    | nil => rfl
    | cons c r =>
      rw [hl2] at hneg
      simp only [isNeg, beq_eq_false_iff_ne] at hneg
      unfold cutNeg; simp [hneg]
  have hTl : s.data.toList = cutNeg l := by rw [hcut, hl]
  have hTs := hs
  have HG := Lib.hid fun w => refGuess_any s w hTs
  rw [hTl] at HG
  have HTL := Lib.hid hTl
  have HCUT := Lib.hid hcut
  by_cases hi : cutNeg l = [48, 120, 105, 110, 102]
  · have e2 : (s.toList == [48, 120, 105, 110, 102]) = true := by rw [Lib.toList_data, HTL.out, hi]; rfl
    have e3 : (s.toList == [48, 120, 48]) = false := by rw [Lib.toList_data, HTL.out, hi]; rfl
    have hform : formF 9218868437227405312 = l := by
      have h1 : l = magT 9218868437227405312 := by rw [← HCUT.out, hi, magT_inf]
      rw [h1]; exact (formF_pos (b := 9218868437227405312) (by omega) (by omega))
    have hcan : canon 9218868437227405312 := ⟨by omega, .inl (by omega)⟩
    have HF : Hid (∀ w, Calls Tryd.prog 18 #[.int .u64 9218868437227405312] w fun e w' => e = .returned (.string ⟨(formF 9218868437227405312).toArray⟩) ∧ Below w.heap.size w w') := Lib.hid fun w => refFormatFloat 9218868437227405312 w (by omega)
    obtain ⟨S, hS⟩ : ∃ S : ByteArray, S = ⟨(formF 9218868437227405312).toArray⟩ := ⟨_, rfl⟩
    rw [← hS] at HF
    have e1 : (S.toList == s.toList) = true := by rw [Lib.toList_data, Lib.toList_data, hS, hform, HL.out]; simp
    have hfin : Hid (∀ w', Below w.heap.size w w' → PFr l w (.returned (.tuple #[.int .u64 9218868437227405312, .int .i64 0])) w') := Lib.hid fun w' hb => ⟨9218868437227405312, 0, rfl, .inl ⟨rfl, hcan, hform⟩, hb⟩

    clear hS hform hcan hi
    clear hneg hsl hat hn hl hcut hTl HCUT
    go_enter Tryd.func20, Tryd.ntmps20
    go_wp2_with fail
    refine (HG.out _).mono ?_
    rintro e w' ⟨g0, hg0, rfl, hgm, rfl⟩
    obtain ⟨G0, hG0⟩ : ∃ G0 : Int, G0 = (g0 : Int) := ⟨_, rfl⟩
    rw [← hG0]
    clear hgm hG0 hg0
    go_wp2_with fail
    refine (HF.out _).mono ?_
    rintro e w1 ⟨rfl, hb1⟩
    have HB1 := Lib.hid hb1
    clear hb1
    go_wp2
    go_ret2
    exact hfin.out _ HB1.out
  · have e2 : (s.toList == [48, 120, 105, 110, 102]) = false := by rw [Lib.toList_data, HTL.out, beq_eq_false_iff_ne]; exact hi
    have HI := Lib.hid hi
    clear hi
    by_cases hi : cutNeg l = [48, 120, 48]
    · have e3 : (s.toList == [48, 120, 48]) = true := by rw [Lib.toList_data, HTL.out, hi]; rfl
      have hform : formF 0 = l := by
        have h1 : l = magT 0 := by rw [← HCUT.out, hi]; rfl
        rw [h1]; exact (formF_pos (b := 0) (by omega) (by omega))
      have hcan : canon 0 := ⟨by omega, .inl (by omega)⟩
      have HF : Hid (∀ w, Calls Tryd.prog 18 #[.int .u64 0] w fun e w' => e = .returned (.string ⟨(formF 0).toArray⟩) ∧ Below w.heap.size w w') := Lib.hid fun w => refFormatFloat 0 w (by omega)
      obtain ⟨S, hS⟩ : ∃ S : ByteArray, S = ⟨(formF 0).toArray⟩ := ⟨_, rfl⟩
      rw [← hS] at HF
      have e1 : (S.toList == s.toList) = true := by rw [Lib.toList_data, Lib.toList_data, hS, hform, HL.out]; simp
      have hfin : Hid (∀ w', Below w.heap.size w w' → PFr l w (.returned (.tuple #[.int .u64 0, .int .i64 0])) w') := Lib.hid fun w' hb => ⟨0, 0, rfl, .inl ⟨rfl, hcan, hform⟩, hb⟩

      clear hS hform hcan hi
      clear hneg hsl hat hn hl hcut hTl HCUT
      go_enter Tryd.func20, Tryd.ntmps20
      go_wp2_with fail
      refine (HG.out _).mono ?_
      rintro e w' ⟨g0, hg0, rfl, hgm, rfl⟩
      obtain ⟨G0, hG0⟩ : ∃ G0 : Int, G0 = (g0 : Int) := ⟨_, rfl⟩
      rw [← hG0]
      clear hgm hG0 hg0
      go_wp2_with fail
      refine (HF.out _).mono ?_
      rintro e w1 ⟨rfl, hb1⟩
      have HB1 := Lib.hid hb1
      clear hb1
      go_wp2
      go_ret2
      exact hfin.out _ HB1.out
    · have e3 : (s.toList == [48, 120, 48]) = false := by rw [Lib.toList_data, HTL.out, beq_eq_false_iff_ne]; exact hi
      have HZ := Lib.hid hi
      clear hi
      clear hneg hsl hat hn hl hcut hTl HCUT
      go_enter Tryd.func20, Tryd.ntmps20
      go_wp2_with fail
      refine (HG.out _).mono ?_
      rintro e w' ⟨g, hg0, rfl, hgm, rfl⟩
      have hg : Hid (∀ m, m ≤ 9218868437227405312 → cutNeg l = magT m → g = m) := Lib.hid fun m hm he => by
        rcases Nat.eq_zero_or_pos m with rfl | h0
        · exact absurd he HZ.out
        · by_cases hinf : m = 9218868437227405312
          · subst hinf; rw [magT_inf] at he; exact absurd he HI.out
          · exact hgm m h0 (by omega) he
      obtain ⟨G, hGg⟩ : ∃ G : Int, G = (g : Int) := ⟨_, rfl⟩
      rw [← hGg]
      have hG0 : 0 ≤ G := by omega
      have hG1 : G ≤ 9223372036854775808 := by omega
      have hG2 := hGg
      clear hgm
      have HR := Lib.hid fun v hv => read_ref (l := l) (g := g) (v := v) HN.out hg.out hv
      obtain ⟨v, hv⟩ : ∃ v : Nat, v = g := ⟨_, rfl⟩
      have HRv := Lib.hid (HR.out v (by rw [HNEG.out]; exact hv))
      have hvi : G = (v : Int) := by omega
      by_cases hbig : G ≤ 9218868437227405312
      · have hg1 : g ≤ 9218868437227405312 := by omega
        have HF : Hid (∀ w, Calls Tryd.prog 18 #[.int .u64 G] w fun e w' => e = .returned (.string ⟨(formF v).toArray⟩) ∧ Below w.heap.size w w') := Lib.hid fun w => by
          rw [hvi]; exact refFormatFloat v w (by omega)
        have HC := Lib.hid (HRv.out.1 hg1)
        obtain ⟨S, hS⟩ : ∃ S : ByteArray, S = ⟨(formF v).toArray⟩ := ⟨_, rfl⟩
        rw [← hS] at HF
        by_cases hq : formF v = l
        · have e1 : (S.toList == s.toList) = true := by rw [Lib.toList_data, Lib.toList_data, hS, hq, HL.out]; simp
          have hfin : Hid (∀ w', Below w.heap.size w w' → PFr l w (.returned (.tuple #[.int .u64 G, .int .i64 0])) w') := Lib.hid fun w' hb => ⟨v, 0, by rw [hvi], .inl ⟨rfl, HC.out, hq⟩, hb⟩
          clear hS hq hg1 hv hvi hg0 hG2 hGg
          go_wp2_with fail
          refine (HF.out _).mono ?_
          rintro e w1 ⟨rfl, hb1⟩
          have HB1 := Lib.hid hb1
          clear hb1
          go_wp2
          go_ret2
          exact hfin.out _ HB1.out
        · have e1 : (S.toList == s.toList) = false := by rw [Lib.toList_data, Lib.toList_data, hS, ← HL.out, beq_eq_false_iff_ne]; exact hq
          have hfin : Hid (∀ w', Below w.heap.size w w' → PFr l w (.returned (.tuple #[.int .u64 0, .int .i64 52])) w') := Lib.hid fun w' hb => ⟨0, 52, rfl, .inr ⟨rfl, rfl, HRv.out.2 (.inr hq)⟩, hb⟩
          clear hS hq hg1 hv hvi hg0 hG2 hGg
          go_wp2_with fail
          refine (HF.out _).mono ?_
          rintro e w1 ⟨rfl, hb1⟩
          have HB1 := Lib.hid hb1
          clear hb1
          go_wp2
          go_ret2
          exact hfin.out _ HB1.out
      · have hbig' : 9218868437227405312 < G := by omega
        have hfin : Hid (PFr l w (.returned (.tuple #[.int .u64 0, .int .i64 52])) w) := Lib.hid ⟨0, 52, rfl, .inr ⟨rfl, rfl, HRv.out.2 (.inl (by omega))⟩, Below.refl _ _⟩
        clear hbig hv hvi hg0 hG2 hGg
        go_wp2
        go_ret2
        exact hfin.out

end Go.Proofs.YtdjjdhkpffjnfaaDoor
