/- recfile: what Bytes gives is opened again (pure). -/
import Derived.Test.YtcclcecjidlojaaDoorRfSpoil
namespace Go.Proofs.YtcclcecjidlojaaDoor
open Go.RowKit
set_option linter.unusedVariables false
theorem rfBytes_16 (k v s n : Nat) (R : List Nat) : (rfBytes k v s n R).take 16 = rfHead k v s n ++ enc 4 (crc (rfHead k v s n)) := by
  unfold rfBytes
  exact List.take_left' (by rw [List.length_append, rfHead_len, enc_length])
theorem rfBytes_drop (k v s n : Nat) (R : List Nat) : (rfBytes k v s n R).drop 16 = R := by
  unfold rfBytes
  exact List.drop_left' (by rw [List.length_append, rfHead_len, enc_length])
theorem rfBytes_12 (k v s n : Nat) (R : List Nat) : (rfBytes k v s n R).take 12 = rfHead k v s n := by
  unfold rfBytes
  rw [List.append_assoc]
  exact List.take_left' (rfHead_len ..)
theorem rfBytes_len (k v s n : Nat) (R : List Nat) : (rfBytes k v s n R).length = 16 + R.length := by
  unfold rfBytes
  simp only [List.length_append, rfHead_len, enc_length]
theorem mid_of {a m c : List Nat} {o d : Nat} (ho : a.length = o) (hm : m.length = d) : ((a ++ (m ++ c)).drop o).take d = m := by
  rw [List.drop_left' ho, List.take_left' hm]
theorem hd_sum (k v s n : Nat) (R : List Nat) (hk : k < 256) (hv : v < 256) (hs : s ≤ 255) : hd (rfBytes k v s n R) 12 4 = crc (rfHead k v s n) := by
  unfold hd
  rw [rfBytes_16, ← List.append_nil (enc 4 _), mid_of (rfHead_len ..) (enc_length ..), be_enc, Nat.mod_eq_of_lt]
  exact crc_lt (rfHead_is hk hv hs)
theorem hd_n (k v s n : Nat) (R : List Nat) (hn : n ≤ 65536) : hd (rfBytes k v s n R) 8 4 = n := by
  unfold hd
  rw [rfBytes_16]
  unfold rfHead
  rw [List.append_assoc, mid_of (by simp [enc_length]) (enc_length ..), be_enc, Nat.mod_eq_of_lt (by omega)]
theorem hd_s (k v s n : Nat) (R : List Nat) (hs : s ≤ 255) : hd (rfBytes k v s n R) 6 2 = s := by
  unfold hd
  rw [rfBytes_16]
  unfold rfHead
  rw [List.append_assoc, List.append_assoc, mid_of (by simp [enc_length]) (enc_length ..), be_enc, Nat.mod_eq_of_lt (by omega)]
theorem hd_v (k v s n : Nat) (R : List Nat) (hv : v < 256) : hd (rfBytes k v s n R) 5 1 = v := by
  unfold hd
  rw [rfBytes_16]
  unfold rfHead
  rw [List.append_assoc, List.append_assoc, List.append_assoc, mid_of (by simp [enc_length]) (enc_length ..), be_enc, Nat.mod_eq_of_lt (by omega)]
theorem hd_k (k v s n : Nat) (R : List Nat) (hk : k < 256) : hd (rfBytes k v s n R) 4 1 = k := by
  unfold hd
  rw [rfBytes_16]
  unfold rfHead
  rw [List.append_assoc, List.append_assoc, List.append_assoc, List.append_assoc, mid_of (by simp) (enc_length ..), be_enc, Nat.mod_eq_of_lt (by omega)]
theorem hdErr_back (k v s n : Nat) (R : List Nat) (hk : k < 256) (hv : v < 256) (h2 : 2 ≤ s) (hs : s ≤ 255) : hdErr (rfBytes k v s n R) = 0 := by
  unfold hdErr
  have h4 : (rfBytes k v s n R).take 4 = [83, 82, 69, 67] := by
    have : (rfBytes k v s n R).take 4 = ((rfBytes k v s n R).take 12).take 4 := by rw [List.take_take]; rfl
    rw [this, rfBytes_12]
    unfold rfHead
    simp only [List.append_assoc]
    exact List.take_left' rfl
  rw [if_neg (by rw [rfBytes_len]; omega), if_pos h4, rfBytes_12, if_pos (hd_sum k v s n R hk hv hs), hd_s _ _ _ _ _ hs, if_pos]
  simp only [Bool.and_eq_true, decide_eq_true_eq]
  omega
theorem recsErr_good {R : List Nat} {s : Nat} : ∀ k, (∀ j, j < k → recErr R s j = 0) → recsErr R s k = 0
  | 0, _ => rfl
  | k + 1, h => by
    unfold recsErr
    rw [if_pos (recsErr_good k fun j hj => h j (by omega))]
    exact h k (by omega)
theorem openErr_back (k v s n : Nat) (R : List Nat) (hk : k < 256) (hv : v < 256) (h2 : 2 ≤ s) (hs : s ≤ 255) (hn : n ≤ 65536) (hR : R.length = n * s) (hr : ∀ j, j < n → recErr R s j = 0) : openErr (rfBytes k v s n R) = 0 := by
  unfold openErr
  rw [if_neg (by rw [rfBytes_len]; omega), if_pos (hdErr_back k v s n R hk hv h2 hs), hd_n _ _ _ _ _ hn, hd_s _ _ _ _ _ hs, rfBytes_drop, if_pos ⟨hn, hR⟩]
  exact recsErr_good n hr
/-- every byte is zero, but the flags -/
def Zr (R : List Nat) (s : Nat) : Prop := ∀ i, nth R i = 0 ∨ (nth R i = 1 ∧ i % s = 0)
theorem Zr.nil (s : Nat) : Zr [] s := fun i => .inl (nth_ge (by simp))
theorem growR_nth (R : List Nat) (z i : Nat) : nth (growR R z) i = nth R i := by
  unfold growR
  by_cases h : i < R.length
  · rw [nth_lt (by rw [List.length_append]; omega), List.getElem_append_left h, nth_lt h]
  · rw [nth_ge (a := R) (by omega)]
    by_cases h2 : i < (R ++ List.replicate (z - R.length) 0).length
    · rw [nth_lt h2, List.getElem_append_right (by omega)]
      simp
    · exact nth_ge (by omega)
theorem Zr.grow {R : List Nat} {s : Nat} (h : Zr R s) (z : Nat) : Zr (growR R z) s := fun i => by
  rw [growR_nth]
  exact h i
theorem Zr.flag {R : List Nat} {s : Nat} (h : Zr R s) (k : Nat) : Zr (R.set (k * s) 1) s := fun i => by
  by_cases hi : i < R.length
  · rw [nth_lt (a := R.set (k * s) 1) (by simpa using hi), List.getElem_set]
    by_cases e : k * s = i
    · rw [if_pos e]
      exact .inr ⟨rfl, by rw [← e]; exact Nat.mul_mod_left ..⟩
    · rw [if_neg e, ← nth_lt hi]
      exact h i
  · exact .inl (nth_ge (by simp; omega))
theorem Zr.lay {R : List Nat} {s : Nat} (h : Zr R s) (o m : Nat) (hl : o + m ≤ R.length) : Zr (layB R o (List.replicate m 0)) s := fun i => by
  rw [layB_nth _ _ _ _ (by rw [List.length_replicate]; exact hl), nth_zeros]
  split
  · exact .inl rfl
  · exact h i
theorem Zr.good {R : List Nat} {s : Nat} (h : Zr R s) (hs : 2 ≤ s) (j : Nat) : recErr R s j = 0 := by
  unfold recErr
  rcases h (j * s) with h0 | h1
  · rw [if_pos h0, if_pos]
    refine zeroB_iff.1 fun r => ?_
    rw [nth_drop]
    by_cases hr : r < s
    · rw [nth_take (by omega)]
      rcases h (j * s + r) with h2 | h2
      · exact h2
      · have h3 := h2.2
        rw [Nat.add_comm, Nat.add_mul_mod_self_right, Nat.mod_eq_of_lt hr] at h3
        rw [h3, Nat.add_zero]
        exact h0
    · exact nth_ge (by rw [List.length_take]; omega)
  · rw [if_neg (by omega), if_pos h1.1]
theorem take_flag' {R : List Nat} {s F j : Nat} (hs : 0 < s) : nth ((growR R (F * s + s)).set (F * s) 1) (j * s) = if j = F then 1 else nth R (j * s) := by
  have hl : F * s < (growR R (F * s + s)).length := by rw [growR_len]; omega
  by_cases e : j = F
  · subst e
    rw [if_pos rfl, nth_lt (by simpa using hl), List.getElem_set_self]
  · have hne : F * s ≠ j * s := fun e' => e (Nat.eq_of_mul_eq_mul_right hs e').symm
    rw [if_neg e, ← growR_nth R (F * s + s) (j * s)]
    unfold nth
    rw [List.getD_eq_getElem?_getD, List.getD_eq_getElem?_getD, List.getElem?_set, if_neg hne]
theorem liveN_past {R : List Nat} {s n : Nat} (hR : R.length = n * s) : ∀ d, liveN R s (n + d) = liveN R s n
  | 0 => rfl
  | d + 1 => by
    show liveN R s (n + d) + (if nth R ((n + d) * s) = 1 then 1 else 0) = _
    rw [liveN_past hR d, nth_ge (by rw [hR]; exact Nat.mul_le_mul_right _ (Nat.le_add_right ..)), if_neg (by decide), Nat.add_zero]
/-- how many records there are after one was put -/
def putN (R : List Nat) (s n id : Nat) : Nat := if usedB R s n id = true then n else max n (id + 1)
theorem RW.taken {R : List Nat} {s n lw id : Nat} (h : RW R s n lw) (hs : 0 < s) (hid : id < 65536) :
    RW (takenR R s n id) s (putN R s n id) lw ∧ takenL R s n id (liveN R s n : Nat) = (liveN (takenR R s n id) s (putN R s n id) : Nat) ∧ id < putN R s n id := by
  unfold takenR takenL putN
  by_cases hu : usedB R s n id = true
  · rw [if_pos hu, if_pos hu, if_pos hu]
    exact ⟨h, rfl, usedB_lt hu⟩
  · rw [if_neg hu, if_neg hu, if_neg hu]
    have hf := fun j => take_flag' (R := R) (F := id) (j := j) hs
    have hlen : ((growR R (id * s + s)).set (id * s) 1).length = max n (id + 1) * s := by
      rw [List.length_set, growR_len, h.len]
      rcases Nat.lt_or_ge id n with h2 | h2
      · have h3 := rec_in h.len h2
        rw [h.len] at h3
        rw [Nat.max_eq_left h3, Nat.max_eq_left (by omega)]
      · have h3 : (id + 1) * s = id * s + s := Nat.succ_mul ..
        have h4 : n * s ≤ id * s := Nat.mul_le_mul_right _ h2
        rw [Nat.max_eq_right (by omega), Nat.max_eq_right (by omega), h3]
    have hlow := h.low
    have hfew := h.few
    refine ⟨⟨hlen, by omega, by omega, fun j hj => ?_⟩, ?_, by omega⟩
    · rw [hf]
      split
      · rfl
      · exact h.below j hj
    · have hR : nth R (id * s) ≠ 1 := fun e => by
        by_cases h2 : id < n
        · rw [usedB_in h2, decide_eq_true e] at hu
          exact hu rfl
        · rw [nth_ge (by rw [h.len]; exact Nat.mul_le_mul_right _ (Nat.le_of_not_lt h2))] at e
          exact absurd e (by decide)
      have h1 := liveN_off (R := (growR R (id * s + s)).set (id * s) 1) (R' := R) (s := s) (id := id) (by rw [hf, if_pos rfl]) hR (max n (id + 1)) (by omega) (fun j _ he => by rw [hf, if_neg he])
      have h2 := liveN_past h.len (max n (id + 1) - n)
      rw [show n + (max n (id + 1) - n) = max n (id + 1) from by omega] at h2
      omega
theorem RW.laid {R : List Nat} {s n lw id : Nat} {D : List Nat} (h : RW R s n lw) (hs : 0 < s) (hid : id < n) (hD : D.length + 1 = s) :
    RW (layB R (id * s + 1) D) s n lw ∧ liveN (layB R (id * s + 1) D) s n = liveN R s n := by
  have hin := rec_in h.len hid
  have hf : ∀ j, nth (layB R (id * s + 1) D) (j * s) = nth R (j * s) := fun j => by
    rw [layB_nth _ _ _ _ (by omega), if_neg]
    intro hc
    by_cases e : j = id
    · subst e; omega
    · exact place_ne hs e ⟨by omega, by omega⟩
  exact ⟨⟨by rw [layB_len]; exact h.len, h.few, h.low, fun j hj => by rw [hf]; exact h.below j hj⟩, liveN_congr n fun j _ => hf j⟩
end Go.Proofs.YtcclcecjidlojaaDoor
