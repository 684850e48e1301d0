/- recfile: a file that is as it should be (pure). -/
import Derived.Test.YtcclcecjidlojaaDoorRf10
namespace Go.Proofs.YtcclcecjidlojaaDoor
open Go.RowKit
set_option linter.unusedVariables false

theorem place_ne {s j id : Nat} (hs : 0 < s) (h : j ≠ id) : ¬ (id * s ≤ j * s ∧ j * s < id * s + s) := fun ⟨h1, h2⟩ => by
  rcases Nat.lt_or_gt_of_ne h with h3 | h3
  · have h4 : (j + 1) * s ≤ id * s := Nat.mul_le_mul_right _ h3
    rw [Nat.succ_mul] at h4
    omega
  · have h4 : (id + 1) * s ≤ j * s := Nat.mul_le_mul_right _ h3
    rw [Nat.succ_mul] at h4
    omega
theorem nth_zeros (n i : Nat) : nth (List.replicate n 0) i = 0 := by
  by_cases h : i < n
  · rw [nth_lt (by simpa using h)]; simp
  · exact nth_ge (by simpa using h)
/-- the flags behind a record that was given back -/
theorem free_flag {R : List Nat} {s n id j : Nat} (hs : 0 < s) (hR : R.length = n * s) (hid : id < n) : nth (layB R (id * s) (List.replicate s 0)) (j * s) = if j = id then 0 else nth R (j * s) := by
  rw [layB_nth _ _ _ _ (by rw [List.length_replicate]; exact rec_in hR hid), List.length_replicate]
  by_cases h : j = id
  · subst h
    rw [if_pos ⟨Nat.le_refl _, by omega⟩, if_pos rfl, nth_zeros]
  · rw [if_neg (place_ne hs h), if_neg h]
theorem liveN_congr {R R' : List Nat} {s : Nat} : ∀ k, (∀ j, j < k → nth R' (j * s) = nth R (j * s)) → liveN R' s k = liveN R s k
  | 0, _ => rfl
  | k + 1, h => by
    unfold liveN
    rw [liveN_congr k (fun j hj => h j (by omega)), h k (by omega)]
theorem liveN_off {R R' : List Nat} {s id : Nat} (h1 : nth R (id * s) = 1) (h2 : nth R' (id * s) ≠ 1) : ∀ k, id < k → (∀ j, j < k → j ≠ id → nth R' (j * s) = nth R (j * s)) → liveN R' s k + 1 = liveN R s k
  | 0, h, _ => by omega
  | k + 1, h, hj => by
    unfold liveN
    by_cases e : k = id
    · subst e
      rw [liveN_congr k (fun j h3 => hj j (by omega) (by omega)), if_neg h2, if_pos h1]
    · have ih := liveN_off h1 h2 k (by omega) (fun j h3 => hj j (by omega))
      rw [hj k (by omega) e]
      omega
theorem liveN_full {R : List Nat} {s : Nat} : ∀ k, (∀ j, j < k → nth R (j * s) = 1) → liveN R s k = k
  | 0, _ => rfl
  | k + 1, h => by
    unfold liveN
    rw [liveN_full k (fun j hj => h j (by omega)), if_pos (h k (by omega))]
/-- as it should be -/
structure RW (R : List Nat) (s n lw : Nat) : Prop where
  len : R.length = n * s
  few : n ≤ 65536
  low : lw ≤ n
  below : ∀ j, j < lw → nth R (j * s) = 1
theorem usedB_lt' {R : List Nat} {s n : Nat} {id : Int} (h : usedB R s n id = true) : ∃ i : Nat, id = i ∧ i < n ∧ nth R (i * s) = 1 := by
  unfold usedB at h
  simp only [Bool.and_eq_true, decide_eq_true_eq] at h
  refine ⟨id.toNat, by omega, by omega, h.2⟩
theorem RW.free {R : List Nat} {s n lw id : Nat} (h : RW R s n lw) (hs : 0 < s) (hid : id < n) (hu : nth R (id * s) = 1) :
    RW (layB R (id * s) (List.replicate s 0)) s n (min lw id) ∧ ((liveN R s n : Nat) : Int) - 1 = ((liveN (layB R (id * s) (List.replicate s 0)) s n : Nat) : Int) := by
  have hf := fun j => free_flag (j := j) hs h.len hid
  refine ⟨⟨by rw [layB_len]; exact h.len, h.few, by have := h.low; omega, fun j hj => ?_⟩, ?_⟩
  · rw [hf, if_neg (by omega)]
    exact h.below j (by omega)
  · have := liveN_off (R := R) (R' := layB R (id * s) (List.replicate s 0)) hu (by rw [hf, if_pos rfl]; decide) n hid (fun j _ hj => by rw [hf, if_neg hj])
    omega
theorem take_flag {R : List Nat} {s n F j : Nat} (hs : 0 < s) (hR : R.length = n * s) (hF : F ≤ n) (hj : j < n ∨ j = F) : nth ((growR R (F * s + s)).set (F * s) 1) (j * s) = if j = F then 1 else nth R (j * s) := by
  have hl : F * s < (growR R (F * s + s)).length := by rw [growR_len]; omega
  unfold nth
  rw [List.getD_eq_getElem?_getD, List.getD_eq_getElem?_getD, List.getElem?_set]
  by_cases h : j = F
  · subst h
    rw [if_pos rfl, if_pos hl, if_pos rfl]
    rfl
  · have hne : F * s ≠ j * s := fun e => h (Nat.eq_of_mul_eq_mul_right hs e).symm
    have hjl : j * s < R.length := by
      rcases hj with h1 | h1
      · have := rec_in hR h1
        omega
      · exact absurd h1 h
    rw [if_neg hne, if_neg h]
    unfold growR
    rw [List.getElem?_append_left hjl]
theorem RW.take {R : List Nat} {s n lw F : Nat} (h : RW R s n lw) (hs : 0 < s) (hF : F ≤ n) (h1 : lw ≤ F) (hall : ∀ j : Nat, lw ≤ j → j < F → usedB R s n (j : Int) = true) (hno : usedB R s n (F : Int) = false) (hlive : liveN R s n ≠ 65536) :
    RW ((growR R (F * s + s)).set (F * s) 1) s (max n (F + 1)) (F + 1) ∧ ((liveN R s n : Nat) : Int) + 1 = ((liveN ((growR R (F * s + s)).set (F * s) 1) s (max n (F + 1)) : Nat) : Int) := by
  have hused : ∀ j, j < F → nth R (j * s) = 1 := fun j hj => by
    rcases Nat.lt_or_ge j lw with h2 | h2
    · exact h.below j h2
    · obtain ⟨i, hi, _, hu⟩ := usedB_lt' (hall j h2 hj)
      obtain rfl : j = i := by omega
      exact hu
  have hF6 : F < 65536 := by
    rcases Nat.lt_or_ge F 65536 with h2 | h2
    · exact h2
    · have h3 := h.few
      have h4 : F = n := by omega
      exact absurd (liveN_full n (fun j hj => hused j (by omega))) (by omega)
  have hf := fun j hj => take_flag (j := j) hs h.len hF hj
  have hlen : ((growR R (F * s + s)).set (F * s) 1).length = max n (F + 1) * s := by
    rw [List.length_set, growR_len, h.len]
    rcases Nat.lt_or_ge F n with h2 | h2
    · have h3 := rec_in h.len h2
      rw [h.len] at h3
      rw [Nat.max_eq_left h3, Nat.max_eq_left (by omega)]
    · obtain rfl : F = n := by omega
      rw [Nat.max_eq_right (by omega), Nat.max_eq_right (by omega), Nat.succ_mul]
  refine ⟨⟨hlen, by have := h.few; omega, by omega, fun j hj => ?_⟩, ?_⟩
  · by_cases e : j = F
    · rw [hf j (.inr e), if_pos e]
    · rw [hf j (.inl (by omega)), if_neg e]
      exact hused j (by omega)
  · rcases Nat.lt_or_ge F n with h2 | h2
    · rw [Nat.max_eq_left (by omega)]
      have hR : nth R (F * s) ≠ 1 := fun e => by
        rw [usedB_in h2, decide_eq_true e] at hno
        exact absurd hno (by decide)
      have := liveN_off (R := (growR R (F * s + s)).set (F * s) 1) (R' := R) (s := s) (id := F) (by rw [hf F (.inr rfl), if_pos rfl]) hR n h2 (fun j hj he => by rw [hf j (.inl hj), if_neg he])
      omega
    · obtain rfl : F = n := by omega
      rw [Nat.max_eq_right (by omega)]
      show _ = ((liveN _ s F + if nth ((growR R (F * s + s)).set (F * s) 1) (F * s) = 1 then 1 else 0 : Nat) : Int)
      rw [liveN_congr (R := R) (R' := (growR R (F * s + s)).set (F * s) 1) F (fun j hj => by rw [hf j (.inl hj), if_neg (by omega)]), hf F (.inr rfl), if_pos rfl, if_pos rfl]
      rfl
theorem openErr_len {bs : List Nat} (h16 : 16 ≤ bs.length) (hh : hdErr bs = 0) (h : openErr bs = 0) : RW (bs.drop 16) (hd bs 6 2) (hd bs 8 4) 0 := by
  unfold openErr at h
  rw [if_neg (by omega), if_pos hh] at h
  by_cases hc : hd bs 8 4 ≤ 65536 ∧ (bs.drop 16).length = hd bs 8 4 * hd bs 6 2
  · exact ⟨hc.2, hc.1, Nat.zero_le _, fun j hj => by omega⟩
  · rw [if_neg hc] at h
    exact absurd h (by decide)
end Go.Proofs.YtcclcecjidlojaaDoor
