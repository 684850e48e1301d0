/- Layer 5, the document's own answer: floats read. -/
import Derived.Test.YtdjjdhkpffjnfaaDoorNumRefP
namespace Go.Proofs.YtdjjdhkpffjnfaaDoor
open Go.RowKit
set_option linter.unusedVariables false

set_option maxRecDepth 100000 in
set_option maxHeartbeats 1000000 in
theorem refPF1 (s : ByteArray) (w : World) (hs : s.size ≤ 140737488355328) (hn : s.data.toList ≠ nanT) (hneg : isNeg s.data.toList = true) :
    Calls Tryd.prog 20 #[.string s] w (PFr s.data.toList w) := by
  have e0 : (s.toList == [48, 120, 110, 97, 110]) = false := by rw [Lib.toList_data, beq_eq_false_iff_ne]; exact hn
  have hsl : s.data.toList.length = s.size := (Lib.size_eq s).symm
  have hat : ∀ h : 0 < s.size, s.data.toList[0]? = some s[0] := fun h => byte_at s 0 h
  obtain ⟨l, hl⟩ : ∃ l, l = s.data.toList := ⟨_, rfl⟩
  rw [← hl] at hneg hsl hat hn ⊢
  have HN := Lib.hid hn
  have HNEG := Lib.hid hneg
  have HL : Hid (l = s.data.toList) := Lib.hid hl
  obtain ⟨c, r, hcr⟩ : ∃ c r, l = c :: r := by
    cases hl2 : l with
    | nil => rw [hl2] at hneg; cases hneg
    | cons c r => exact ⟨c, r, rfl⟩
  have hc : c.toNat = 45 := by rw [hcr] at hneg; simpa [isNeg] using hneg
  have h0 : 0 < s.size := by rw [← hsl, hcr]; simp
  have hc0 : s[0] = c := by
    have := hat h0
    rw [hcr] at this
    simp at this
    exact this.symm
  have e45 : ((s[0].toNat : Int) == 45) = true := by rw [hc0, beq_iff_eq]; omega
  have hcut : cutNeg l = r := by rw [hcr]; unfold cutNeg; simp [hc]
  obtain ⟨T, hT⟩ : ∃ T : ByteArray, T = ⟨r.toArray⟩ := ⟨_, rfl⟩
  have hex : s.extract 1 s.size = T := by
    apply ba_ext
    rw [Lib.extract_to_end, hT, ← hl, hcr]; rfl
  have hTl : T.data.toList = cutNeg l := by rw [hT, hcut]
  have hTs : T.size ≤ 140737488355328 := by
    rw [hT, str_size]
    have : l.length = r.length + 1 := by rw [hcr]; rfl
    omega
  have HG := Lib.hid fun w => refGuess_any T w hTs
  rw [hTl] at HG
  have HTL := Lib.hid hTl
  have HCUT := Lib.hid hcut
  by_cases hi : cutNeg l = [48, 120, 105, 110, 102]
  · have e2 : (T.toList == [48, 120, 105, 110, 102]) = true := by rw [Lib.toList_data, HTL.out, hi]; rfl
    have e3 : (T.toList == [48, 120, 48]) = false := by rw [Lib.toList_data, HTL.out, hi]; rfl
    have hform : formF 18442240474082181120 = l := by
      have h1 : l = 45 :: magT 9218868437227405312 := by rw [hcr, ← hcut, hi, magT_inf]; congr 1; exact UInt8.toNat_inj.1 (by rw [hc]; rfl)
      rw [h1]; exact (formF_neg (b := 18442240474082181120) (by omega) (by omega))
    have hcan : canon 18442240474082181120 := ⟨by omega, .inl (by omega)⟩
    have HF : Hid (∀ w, Calls Tryd.prog 18 #[.int .u64 18442240474082181120] w fun e w' => e = .returned (.string ⟨(formF 18442240474082181120).toArray⟩) ∧ Below w.heap.size w w') := Lib.hid fun w => refFormatFloat 18442240474082181120 w (by omega)
    obtain ⟨S, hS⟩ : ∃ S : ByteArray, S = ⟨(formF 18442240474082181120).toArray⟩ := ⟨_, rfl⟩
    rw [← hS] at HF
    have e1 : (S.toList == s.toList) = true := by rw [Lib.toList_data, Lib.toList_data, hS, hform, HL.out]; simp
    have hfin : Hid (∀ w', Below w.heap.size w w' → PFr l w (.returned (.tuple #[.int .u64 18442240474082181120, .int .i64 0])) w') := Lib.hid fun w' hb => ⟨18442240474082181120, 0, rfl, .inl ⟨rfl, hcan, hform⟩, hb⟩

    clear hS hform hcan hi
    clear hneg hsl hat hn hl hcr hc hc0 hcut hT hTl HCUT
    go_enter Tryd.func20, Tryd.ntmps20
    go_wp2_with fail
    refine (HG.out _).mono ?_
    rintro e w' ⟨g0, hg0, rfl, hgm, rfl⟩
    obtain ⟨G0, hG0⟩ : ∃ G0 : Int, G0 = (g0 : Int) := ⟨_, rfl⟩
    rw [← hG0]
    clear hgm hG0 hg0
    go_wp2_with fail
    refine (HF.out _).mono ?_
    rintro e w1 ⟨rfl, hb1⟩
    have HB1 := Lib.hid hb1
    clear hb1
    go_wp2
    go_ret2
    exact hfin.out _ HB1.out
  · have e2 : (T.toList == [48, 120, 105, 110, 102]) = false := by rw [Lib.toList_data, HTL.out, beq_eq_false_iff_ne]; exact hi
    have HI := Lib.hid hi
    clear hi
    by_cases hi : cutNeg l = [48, 120, 48]
    · have e3 : (T.toList == [48, 120, 48]) = true := by rw [Lib.toList_data, HTL.out, hi]; rfl
      have hform : formF 9223372036854775808 = l := by
        have h1 : l = 45 :: magT 0 := by rw [hcr, ← hcut, hi]; congr 1; exact UInt8.toNat_inj.1 (by rw [hc]; rfl)
        rw [h1]; exact (formF_neg (b := 9223372036854775808) (by omega) (by omega))
      have hcan : canon 9223372036854775808 := ⟨by omega, .inl (by omega)⟩
      have HF : Hid (∀ w, Calls Tryd.prog 18 #[.int .u64 9223372036854775808] w fun e w' => e = .returned (.string ⟨(formF 9223372036854775808).toArray⟩) ∧ Below w.heap.size w w') := Lib.hid fun w => refFormatFloat 9223372036854775808 w (by omega)
      obtain ⟨S, hS⟩ : ∃ S : ByteArray, S = ⟨(formF 9223372036854775808).toArray⟩ := ⟨_, rfl⟩
      rw [← hS] at HF
      have e1 : (S.toList == s.toList) = true := by rw [Lib.toList_data, Lib.toList_data, hS, hform, HL.out]; simp
      have hfin : Hid (∀ w', Below w.heap.size w w' → PFr l w (.returned (.tuple #[.int .u64 9223372036854775808, .int .i64 0])) w') := Lib.hid fun w' hb => ⟨9223372036854775808, 0, rfl, .inl ⟨rfl, hcan, hform⟩, hb⟩

      clear hS hform hcan hi
      clear hneg hsl hat hn hl hcr hc hc0 hcut hT hTl HCUT
      go_enter Tryd.func20, Tryd.ntmps20
      go_wp2_with fail
      refine (HG.out _).mono ?_
      rintro e w' ⟨g0, hg0, rfl, hgm, rfl⟩
      obtain ⟨G0, hG0⟩ : ∃ G0 : Int, G0 = (g0 : Int) := ⟨_, rfl⟩
      rw [← hG0]
      clear hgm hG0 hg0
      go_wp2_with fail
      refine (HF.out _).mono ?_
      rintro e w1 ⟨rfl, hb1⟩
      have HB1 := Lib.hid hb1
      clear hb1
      go_wp2
      go_ret2
      exact hfin.out _ HB1.out
    · have e3 : (T.toList == [48, 120, 48]) = false := by rw [Lib.toList_data, HTL.out, beq_eq_false_iff_ne]; exact hi
      have HZ := Lib.hid hi
      clear hi
      clear hneg hsl hat hn hl hcr hc hc0 hcut hT hTl HCUT
      go_enter Tryd.func20, Tryd.ntmps20
      go_wp2_with fail
      refine (HG.out _).mono ?_
      rintro e w' ⟨g, hg0, rfl, hgm, rfl⟩
      have hg : Hid (∀ m, m ≤ 9218868437227405312 → cutNeg l = magT m → g = m) := Lib.hid fun m hm he => by
        rcases Nat.eq_zero_or_pos m with rfl | h0
        · exact absurd he HZ.out
        · by_cases hinf : m = 9218868437227405312
          · subst hinf; rw [magT_inf] at he; exact absurd he HI.out
          · exact hgm m h0 (by omega) he
      obtain ⟨G, hGg⟩ : ∃ G : Int, G = (g : Int) := ⟨_, rfl⟩
      rw [← hGg]
      have hG0 : 0 ≤ G := by omega
      have hG1 : G ≤ 9223372036854775808 := by omega
      have hG2 := hGg
      clear hgm
      have HR := Lib.hid fun v hv => read_ref (l := l) (g := g) (v := v) HN.out hg.out hv
      obtain ⟨v, hv⟩ : ∃ v : Nat, v = 9223372036854775808 + g := ⟨_, rfl⟩
      have HRv := Lib.hid (HR.out v (by rw [HNEG.out]; exact hv))
      obtain ⟨vi, hvi⟩ : ∃ vi : Int, vi = (v : Int) := ⟨_, rfl⟩
      have hvG : 9223372036854775808 + G = vi := by omega
      by_cases hbig : G ≤ 9218868437227405312
      · have hg1 : g ≤ 9218868437227405312 := by omega
        have HF : Hid (∀ w, Calls Tryd.prog 18 #[.int .u64 vi] w fun e w' => e = .returned (.string ⟨(formF v).toArray⟩) ∧ Below w.heap.size w w') := Lib.hid fun w => by
          rw [hvi]; exact refFormatFloat v w (by omega)
        have HC := Lib.hid (HRv.out.1 hg1)
        obtain ⟨S, hS⟩ : ∃ S : ByteArray, S = ⟨(formF v).toArray⟩ := ⟨_, rfl⟩
        rw [← hS] at HF
        by_cases hq : formF v = l
        · have e1 : (S.toList == s.toList) = true := by rw [Lib.toList_data, Lib.toList_data, hS, hq, HL.out]; simp
          have hfin : Hid (∀ w', Below w.heap.size w w' → PFr l w (.returned (.tuple #[.int .u64 vi, .int .i64 0])) w') := Lib.hid fun w' hb => ⟨v, 0, by rw [hvi], .inl ⟨rfl, HC.out, hq⟩, hb⟩
          clear hS hq hg1 hv hvi hg0 hG2 hGg
          go_wp2_with fail
          refine (HF.out _).mono ?_
          rintro e w1 ⟨rfl, hb1⟩
          have HB1 := Lib.hid hb1
          clear hb1
          go_wp2
          go_ret2
          exact hfin.out _ HB1.out
        · have e1 : (S.toList == s.toList) = false := by rw [Lib.toList_data, Lib.toList_data, hS, ← HL.out, beq_eq_false_iff_ne]; exact hq
          have hfin : Hid (∀ w', Below w.heap.size w w' → PFr l w (.returned (.tuple #[.int .u64 0, .int .i64 52])) w') := Lib.hid fun w' hb => ⟨0, 52, rfl, .inr ⟨rfl, rfl, HRv.out.2 (.inr hq)⟩, hb⟩
          clear hS hq hg1 hv hvi hg0 hG2 hGg
          go_wp2_with fail
          refine (HF.out _).mono ?_
          rintro e w1 ⟨rfl, hb1⟩
          have HB1 := Lib.hid hb1
          clear hb1
          go_wp2
          go_ret2
          exact hfin.out _ HB1.out
      · have hbig' : 9218868437227405312 < G := by omega
        have hfin : Hid (PFr l w (.returned (.tuple #[.int .u64 0, .int .i64 52])) w) := Lib.hid ⟨0, 52, rfl, .inr ⟨rfl, rfl, HRv.out.2 (.inl (by omega))⟩, Below.refl _ _⟩
        clear hbig hv hvi hg0 hG2 hGg
        go_wp2
        go_ret2
        exact hfin.out

end Go.Proofs.YtdjjdhkpffjnfaaDoor
