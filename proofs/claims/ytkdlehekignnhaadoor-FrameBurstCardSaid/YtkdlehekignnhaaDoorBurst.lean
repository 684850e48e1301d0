/- Plain mathematics: what is turned within four neighbouring bytes is told by the sum. No Go in sight. -/
import Derived.Test.YtkdlehekignnhaaDoorBase
import Derived.Test.YtkdlehekignnhaaDoorPolyTwo
namespace Go.Proofs.YtkdlehekignnhaaDoor
set_option linter.unusedVariables false

def word : List Nat → Nat
  | [] => 0
  | c :: r => 256 * word r + c
theorem word_lt (l : List Nat) (h : ∀ x ∈ l, x < 256) : word l < 256 ^ l.length := by
  induction l with
  | nil => simp [word]
  | cons c r ih =>
    have h1 := ih fun x hx => h x (List.mem_cons_of_mem _ hx)
    have h2 := h c List.mem_cons_self
    simp only [word, List.length_cons, Nat.pow_succ]
    omega
theorem word_zero (l : List Nat) : word l = 0 ↔ l.any (· != 0) = false := by
  induction l with
  | nil => simp [word]
  | cons c r ih =>
    simp only [word, List.any_cons, Bool.or_eq_false_iff, ← ih, bne_eq_false_iff_eq]
    omega
theorem feeds_word (l : List Nat) (h : ∀ x ∈ l, x < 256) (n : Nat) : feeds n l = stepN (8 * l.length) (n ^^^ word l) := by
  induction l generalizing n with
  | nil => simp [feeds, word, stepN]
  | cons c r ih =>
    have h2 := h c List.mem_cons_self
    show feeds (feed n c) r = _
    rw [ih (fun x hx => h x (List.mem_cons_of_mem _ hx)), List.length_cons, Nat.mul_add, stepN_add]
    congr 1
    have e : word (c :: r) = 2 ^ 8 * word r ^^^ c := mul_add_xor 8 (word r) c h2
    rw [e, Nat.xor_comm (2 ^ 8 * word r), ← Nat.xor_assoc]
    show _ = stepN 8 _
    rw [stepN_xor, stepN_pow]
    rfl
theorem feeds_burst (l : List Nat) (h : ∀ x ∈ l, x < 256) (h4 : l.length ≤ 4) : feeds 0 l = 0 ↔ l.any (· != 0) = false := by
  rw [feeds_word l h, Nat.zero_xor, ← word_zero]
  have hw : word l < 4294967296 := Nat.lt_of_lt_of_le (word_lt l h) (Nat.pow_le_pow_right (by omega : 0 < 256) h4)
  constructor
  · exact fun h0 => stepN_inj hw h0
  · intro h0; rw [h0, stepN_zero]
theorem ext_nth {a b : List Nat} (hl : a.length = b.length) (h : ∀ i, i < a.length → nth a i = nth b i) : a = b := by
  apply List.ext_getElem hl
  intro i h1 h2
  have := h i h1
  rwa [nth_lt h1, nth_lt h2] at this
theorem nth_range (n : Nat) (f : Nat → Nat) (i : Nat) (h : i < n) : nth ((List.range n).map f) i = f i := by
  rw [nth_lt (by simpa using h)]; simp
/-- the turns, laid over the whole length -/
def over (n at_ : Nat) (t : List Nat) (k : Nat) : List Nat := (List.range n).map fun j => if at_ ≤ j ∧ j < at_ + k then nth t (j - at_) else 0
def bur (b : List Nat) (at_ : Nat) (t : List Nat) (k : Nat) : List Nat := (List.range b.length).map fun j => nth b j ^^^ (if at_ ≤ j ∧ j < at_ + k then nth t (j - at_) else 0)
theorem bur_length (b : List Nat) (at_ : Nat) (t : List Nat) (k : Nat) : (bur b at_ t k).length = b.length := by simp [bur]
theorem bur_zero (b : List Nat) (at_ : Nat) (t : List Nat) : bur b at_ t 0 = b := by
  refine ext_nth (bur_length _ _ _ _) fun i hi => ?_
  rw [bur_length] at hi
  unfold bur
  rw [nth_range _ _ _ hi, if_neg (by omega), Nat.xor_zero]
theorem bur_nth (b : List Nat) (at_ : Nat) (t : List Nat) (k : Nat) (h : at_ + k < b.length) : nth (bur b at_ t k) (at_ + k) = nth b (at_ + k) := by
  unfold bur
  rw [nth_range _ _ _ h, if_neg (by omega), Nat.xor_zero]
theorem nth_set (l : List Nat) (i j m : Nat) (h : i < l.length) : nth (l.set i m) j = if j = i then m else nth l j := by
  unfold nth
  simp only [List.getD_eq_getElem?_getD, List.getElem?_set]
  by_cases hj : i = j
  · subst hj; simp [h]
  · rw [if_neg hj, if_neg (Ne.symm hj)]
theorem bur_set (b : List Nat) (at_ : Nat) (t : List Nat) (k : Nat) (h : at_ + k < b.length) : (bur b at_ t k).set (at_ + k) (nth b (at_ + k) ^^^ nth t k) = bur b at_ t (k + 1) := by
  refine ext_nth (by rw [List.length_set, bur_length, bur_length]) fun i hi => ?_
  rw [List.length_set, bur_length] at hi
  rw [nth_set _ _ _ _ (by rw [bur_length]; exact h)]
  unfold bur
  rw [nth_range _ _ _ hi, nth_range _ _ _ hi]
  by_cases e : i = at_ + k
  · subst e
    rw [if_pos rfl, if_pos (by omega), Nat.add_sub_cancel_left]
  · rw [if_neg e]
    congr 1
    by_cases h1 : at_ ≤ i ∧ i < at_ + k
    · rw [if_pos h1, if_pos (by omega)]
    · rw [if_neg h1, if_neg (by omega)]
theorem bur_xors (b : List Nat) (at_ : Nat) (t : List Nat) (k : Nat) : bur b at_ t k = xors b (over b.length at_ t k) := by
  have hl : b.length = (over b.length at_ t k).length := by simp [over]
  refine ext_nth (by rw [bur_length, xors_length _ _ hl]) fun i hi => ?_
  rw [bur_length] at hi
  unfold bur
  rw [nth_range _ _ _ hi]
  have : nth (xors b (over b.length at_ t k)) i = nth b i ^^^ nth (over b.length at_ t k) i := by
    rw [nth_lt (by rw [xors_length _ _ hl]; exact hi), nth_lt hi, nth_lt (by omega)]
    simp [xors]
  rw [this]
  unfold over
  rw [nth_range _ _ _ hi]
theorem nth_append (a b : List Nat) (i : Nat) : nth (a ++ b) i = if i < a.length then nth a i else nth b (i - a.length) := by
  unfold nth
  simp only [List.getD_eq_getElem?_getD, List.getElem?_append]
  split <;> rfl
theorem nth_replicate (n i : Nat) : nth (List.replicate n 0) i = 0 := by
  unfold nth
  rw [List.getD_eq_getElem?_getD, List.getElem?_replicate]
  split <;> rfl
theorem over_parts (n at_ : Nat) (t : List Nat) (k : Nat) (hk : k ≤ t.length) (h : at_ + k ≤ n) : over n at_ t k = List.replicate at_ 0 ++ t.take k ++ List.replicate (n - at_ - k) 0 := by
  have hl : (t.take k).length = k := by simp; omega
  refine ext_nth (by simp [over]; omega) fun i hi => ?_
  have hi : i < n := by simpa [over] using hi
  unfold over
  rw [nth_range _ _ _ hi, nth_append, nth_append, nth_replicate, nth_replicate]
  simp only [List.length_append, List.length_replicate, hl]
  by_cases h1 : i < at_
  · rw [if_neg (by omega), if_pos (by omega), if_pos h1]
  · by_cases h2 : i < at_ + k
    · rw [if_pos (by omega), if_pos h2, if_neg h1, nth_take (by omega)]
    · rw [if_neg (by omega), if_neg h2]
theorem crc_bur (b : List Nat) (at_ : Nat) (t : List Nat) (k : Nat) (hk : k ≤ t.length) (h : at_ + k ≤ b.length) (h4 : k ≤ 4) (ht : ∀ x ∈ t, x < 256) :
    (crc (bur b at_ t k) = crc b) ↔ (t.take k).any (· != 0) = false := by
  have hb : ∀ x ∈ t.take k, x < 256 := fun x hx => ht x (List.mem_of_mem_take hx)
  have hlt : feeds 0 (t.take k) < 4294967296 := feeds_lt (by omega) hb
  rw [← feeds_burst _ hb (by simp; omega), bur_xors]
  have hx : feeds (0 ^^^ ones) (xors b (over b.length at_ t k)) = feeds (0 ^^^ ones) b ^^^ feeds 0 (over b.length at_ t k) := by
    have := feeds_xor (0 ^^^ ones) 0 b (over b.length at_ t k) (by simp [over])
    rwa [Nat.xor_zero] at this
  have hz : feeds 0 (over b.length at_ t k) = stepN (8 * (b.length - at_ - k)) (feeds 0 (t.take k)) := by
    rw [over_parts _ _ _ _ hk h, feeds_append, feeds_append, feeds_zeros, feeds_zeros, stepN_zero]
  unfold crc crcFrom
  rw [hx, hz]
  generalize feeds (0 ^^^ ones) b = x
  constructor
  · intro h0
    refine stepN_inj hlt (k := 8 * (b.length - at_ - k)) ?_
    have h1 := congrArg (fun y => x ^^^ (y ^^^ ones)) h0
    simp only [xor_self2] at h1
    rwa [xor_cancel, Nat.xor_self] at h1
  · intro h0
    rw [h0, stepN_zero, Nat.xor_zero]

end Go.Proofs.YtkdlehekignnhaaDoor
