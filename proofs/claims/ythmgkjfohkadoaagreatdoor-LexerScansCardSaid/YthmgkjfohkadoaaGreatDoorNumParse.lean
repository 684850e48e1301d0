/- Layer 5: whole numbers read. -/
import Derived.Test.YthmgkjfohkadoaaGreatDoorNumFmtA
namespace Go.Proofs.YthmgkjfohkadoaaGreatDoor
open Go.RowKit
set_option linter.unusedVariables false

theorem intForm_iff (l : List UInt8) : intForm l = (l == [48] || posForm (cutNeg l)) := rfl
theorem parseI_bad {l : List UInt8} (h : intForm l = false) : parseI l = (0, 50) := by unfold parseI; rw [h]; rfl
theorem parseI_form {l : List UInt8} (h : intForm l = true) : (∃ v, Lib.parseIntB 64 l = .ok v ∧ parseI l = (v, 0)) ∨ (Lib.parseIntB 64 l = .range ∧ parseI l = (0, 51)) := by
  have hp := parseIntB_form h
  unfold parseI
  rw [if_pos h]
  by_cases hn : isNeg l = true
  · rw [if_pos hn] at hp ⊢
    by_cases hv : vald 0 (cutNeg l) ≤ 9223372036854775808
    · rw [if_pos hv] at hp ⊢; exact .inl ⟨_, hp, rfl⟩
    · rw [if_neg hv] at hp ⊢; exact .inr ⟨hp, rfl⟩
  · rw [if_neg hn] at hp ⊢
    by_cases hv : vald 0 (cutNeg l) < 9223372036854775808
    · rw [if_pos hv] at hp ⊢; exact .inl ⟨_, hp, rfl⟩
    · rw [if_neg hv] at hp ⊢; exact .inr ⟨hp, rfl⟩

theorem cutNeg_len (l : List UInt8) : (cutNeg l).length ≤ l.length := by
  unfold cutNeg
  split
  · exact Nat.le_refl _
  · split
    · simp
    · exact Nat.le_refl _
theorem ba_eq (s : ByteArray) (l : List UInt8) : (s = ⟨l.toArray⟩) ↔ s.data.toList = l := by
  obtain ⟨⟨m⟩⟩ := s
  simp

/-- strconv.ParseInt at base 10 and 64 bits: what it gives of a text in its form -/
theorem scParse (s : ByteArray) (w : World) (hT : Tabs w) (hs : s.size ≤ 140737488355328) (hf : intForm s.data.toList = true) :
    Calls Tryz.prog 59 #[.string s, .int .i64 10, .int .i64 64] w fun e w' => Below w.heap.size w w' ∧
      (((parseI s.data.toList).2 = 0 ∧ e = .returned (.tuple #[.int .i64 (parseI s.data.toList).1, .nilIface])) ∨ (parseI s.data.toList = (0, 51) ∧ ∃ x t p, e = .returned (.tuple #[.int .i64 x, .iface t p]))) := by
  rcases parseI_form hf with ⟨v, h1, h2⟩ | ⟨h1, h2⟩
  · refine (Tryz.strconv_ParseInt_10_at64_ok s (by omega) v h1 w).mono fun e w' ⟨he, hw⟩ => ⟨?_, .inl ⟨by rw [h2], by rw [h2, he]⟩⟩
    rcases hw with rfl | ⟨t, rfl⟩
    · exact Below.refl _ _
    · exact Lib.bytesWorld_below _ _ _
  · obtain ⟨tp, p, hv⟩ := hT.er
    refine (Tryz.strconv_ParseInt_10_at64_range_var s (by omega) h1 tp p w hv).mono fun e w' ⟨N, he, _, _, hb⟩ => ⟨hb, .inr ⟨h2, _, _, _, he⟩⟩

set_option maxRecDepth 100000 in
set_option maxHeartbeats 400000 in
theorem parse_tail (s : ByteArray) (w : World) (hT : Tabs w) (hs : s.size ≤ 140737488355328) (hf : intForm s.data.toList = true)
    (hg : (s.data.toList = [48]) ∨ (s.data.toList ≠ [48] ∧ posForm (cutNeg s.data.toList) = true)) :
    Calls Tryz.prog 43 #[.string s] w fun e w' => e = .returned (.tuple #[.int .i64 (parseI s.data.toList).1, .int .i64 (parseI s.data.toList).2]) ∧ Below w.heap.size w w' := by
  have HP := Lib.hid (scParse s w hT hs hf)
  obtain ⟨n, hn⟩ : ∃ n, n = (parseI s.data.toList).1 := ⟨_, rfl⟩
  obtain ⟨f, hf'⟩ : ∃ f, f = (parseI s.data.toList).2 := ⟨_, rfl⟩
  have HN := Lib.hid hn
  have HF := Lib.hid hf'
  rw [← hn, ← hf']
  clear hn hf' hT hf
  rcases hg with h0 | ⟨h0, h1⟩
  · have e1 : (s.toList == [48]) = true := by rw [Lib.toList_data, h0]; rfl
    clear h0
    go_enter Tryz.func43, Tryz.ntmps43
    go_wp2_with fail
    refine HP.out.mono ?_
    rintro e w1 ⟨hb, (⟨h0, rfl⟩ | ⟨h51, x, t, p, rfl⟩)⟩
    · rw [← HN.out]
      have H0 := Lib.hid h0
      clear h0
      go_wp2
      go_ret2
      exact ⟨ret_two rfl (int_eq (by rw [HF.out, H0.out])), hb⟩
    · have H51 := Lib.hid h51
      clear h51
      go_wp2
      go_ret2
      exact ⟨ret_two (int_eq (by rw [HN.out, H51.out])) (int_eq (by rw [HF.out, H51.out])), hb⟩
  · have e1 : (s.toList == [48]) = false := by rw [Lib.toList_data, beq_eq_false_iff_ne]; exact h0
    have HTP : Hid (∀ w, Calls Tryz.prog 39 #[.string s, .string ⟨#[45]⟩] w fun e w' => e = .returned (.string ⟨(cutNeg s.data.toList).toArray⟩) ∧ w = w') := Lib.hid fun w =>
      (Tryz.strings_TrimPrefix s ⟨#[45]⟩ w).mono fun e w' ⟨he, hw⟩ => ⟨by rw [he, show (⟨#[45]⟩ : ByteArray).data.toList = [45] from rfl, trimNeg], hw.symm⟩
    have HIP : Hid (∀ w, Calls Tryz.prog 58 #[.string ⟨(cutNeg s.data.toList).toArray⟩] w fun e w' => e = .returned (.bool true) ∧ w = w') := Lib.hid fun w =>
      (isPositive_any ⟨(cutNeg s.data.toList).toArray⟩ w (by
        rw [str_size]
        have := cutNeg_len s.data.toList
        have e : s.data.toList.length = s.size := by simp
        omega)).mono fun e w' ⟨he, hw⟩ => ⟨by rw [he]; exact ret_bool' h1, hw⟩
    clear h0 h1
    go_enter Tryz.func43, Tryz.ntmps43
    go_wp2_with fail
    refine (HTP.out _).mono ?_
    rintro e w1 ⟨rfl, rfl⟩
    go_wp2_with fail
    refine (HIP.out _).mono ?_
    rintro e w1 ⟨rfl, rfl⟩
    go_wp2_with fail
    refine HP.out.mono ?_
    rintro e w1 ⟨hb, (⟨h0, rfl⟩ | ⟨h51, x, t, p, rfl⟩)⟩
    · rw [← HN.out]
      have H0 := Lib.hid h0
      clear h0
      go_wp2
      go_ret2
      exact ⟨ret_two rfl (int_eq (by rw [HF.out, H0.out])), hb⟩
    · have H51 := Lib.hid h51
      clear h51
      go_wp2
      go_ret2
      exact ⟨ret_two (int_eq (by rw [HN.out, H51.out])) (int_eq (by rw [HF.out, H51.out])), hb⟩

set_option maxRecDepth 100000 in
set_option maxHeartbeats 400000 in
theorem parse_bad (s : ByteArray) (w : World) (hs : s.size ≤ 140737488355328) (h0 : s.data.toList ≠ [48]) (h1 : posForm (cutNeg s.data.toList) = false) :
    Calls Tryz.prog 43 #[.string s] w fun e w' => e = .returned (.tuple #[.int .i64 0, .int .i64 50]) ∧ Below w.heap.size w w' := by
  have e1 : (s.toList == [48]) = false := by rw [Lib.toList_data, beq_eq_false_iff_ne]; exact h0
  have HTP : Hid (∀ w, Calls Tryz.prog 39 #[.string s, .string ⟨#[45]⟩] w fun e w' => e = .returned (.string ⟨(cutNeg s.data.toList).toArray⟩) ∧ w = w') := Lib.hid fun w =>
    (Tryz.strings_TrimPrefix s ⟨#[45]⟩ w).mono fun e w' ⟨he, hw⟩ => ⟨by rw [he, show (⟨#[45]⟩ : ByteArray).data.toList = [45] from rfl, trimNeg], hw.symm⟩
  have HIP : Hid (∀ w, Calls Tryz.prog 58 #[.string ⟨(cutNeg s.data.toList).toArray⟩] w fun e w' => e = .returned (.bool false) ∧ w = w') := Lib.hid fun w =>
    (isPositive_any ⟨(cutNeg s.data.toList).toArray⟩ w (by
      rw [str_size]
      have := cutNeg_len s.data.toList
      have e : s.data.toList.length = s.size := by simp
      omega)).mono fun e w' ⟨he, hw⟩ => ⟨by rw [he]; exact ret_bool' h1, hw⟩
  clear h0 h1
  go_enter Tryz.func43, Tryz.ntmps43
  go_wp2_with fail
  refine (HTP.out _).mono ?_
  rintro e w1 ⟨rfl, rfl⟩
  go_wp2_with fail
  refine (HIP.out _).mono ?_
  rintro e w1 ⟨rfl, rfl⟩
  go_wp2
  go_ret2
  exact ⟨rfl, Below.refl _ _⟩

theorem ParseInt_any (s : ByteArray) (w : World) (hT : Tabs w) (hs : s.size ≤ 140737488355328) :
    Calls Tryz.prog 43 #[.string s] w fun e w' => e = .returned (.tuple #[.int .i64 (parseI s.data.toList).1, .int .i64 (parseI s.data.toList).2]) ∧ Below w.heap.size w w' := by
  by_cases h0 : s.data.toList = [48]
  · exact parse_tail s w hT hs (by rw [h0]; rfl) (.inl h0)
  · cases h1 : posForm (cutNeg s.data.toList) with
    | true => exact parse_tail s w hT hs (by rw [intForm_iff, h1]; simp) (.inr ⟨h0, h1⟩)
    | false =>
      have hf : intForm s.data.toList = false := by rw [intForm_iff, h1, Bool.or_false, beq_eq_false_iff_ne]; exact h0
      rw [parseI_bad hf]
      exact parse_bad s w hs h0 h1
end Go.Proofs.YthmgkjfohkadoaaGreatDoor
