/- Plain mathematics, second part: the table of nibbles, the bits turned about, the document's division and product, bursts. No Go and no program in sight. -/
import Derived.Test.YtkdlehekignnhaaDoorPoly
namespace Go.Proofs.YtkdlehekignnhaaDoor
set_option linter.unusedVariables false

theorem mul_add_xor (k q r : Nat) (h : r < 2 ^ k) : 2 ^ k * q + r = 2 ^ k * q ^^^ r := by
  apply Nat.eq_of_testBit_eq
  intro i
  rw [Nat.testBit_xor, Nat.testBit_two_pow_mul_add _ h, Nat.testBit_two_pow_mul]
  rcases Nat.lt_or_ge i k with hi | hi
  · rw [if_pos hi]; simp [Nat.not_le.2 hi]
  · rw [if_neg (by omega), Nat.testBit_lt_two_pow (Nat.lt_of_lt_of_le h (Nat.pow_le_pow_right (by omega) hi))]
    simp [hi]
theorem two_xor (q r : Nat) (h : r < 2) : 2 * q + r = 2 * q ^^^ r := mul_add_xor 1 q r h

/-! ### The table -/
def tab : List Nat := [0, 498536548, 997073096, 651767980, 1994146192, 1802195444, 1303535960, 1342533948, 3988292384, 4027552580, 3604390888, 3412177804, 2607071920, 2262029012, 2685067896, 3183342108]
theorem tab_step (r : Nat) (h : r < 16) : tab.getD r 0 = stepN 4 r := by
  have : ∀ r, r < 16 → tab.getD r 0 = stepN 4 r := by decide
  exact this r h
theorem tab_lt (r : Nat) (h : r < 16) : tab.getD r 0 < 4294967296 := by rw [tab_step r h]; exact stepN_lt (by omega)
theorem nib (n : Nat) : n / 16 ^^^ tab.getD (n % 16) 0 = stepN 4 n := by
  have h : n = 2 ^ 4 * (n / 16) ^^^ (n % 16) := by
    rw [← mul_add_xor 4 _ _ (by omega)]
    omega
  rw [tab_step _ (by omega)]
  conv => rhs; rw [h, stepN_xor, stepN_pow]
theorem nib2 (n c : Nat) : (stepN 4 (n ^^^ c)) / 16 ^^^ tab.getD (stepN 4 (n ^^^ c) % 16) 0 = feed n c := by
  rw [nib, ← stepN_add]; rfl

/-! ### The bits turned about -/
def outR : Nat → Nat → Nat
  | 0, _ => 0
  | k + 1, v => 2 * outR k v + v / 2 ^ k % 2
def rev (v : Nat) : Nat := outR 32 v
theorem outR_lt (k v : Nat) : outR k v < 2 ^ k := by
  induction k with
  | zero => simp [outR]
  | succ k ih => simp only [outR]; rw [Nat.pow_succ]; omega
theorem rev_lt (v : Nat) : rev v < 4294967296 := outR_lt 32 v
theorem outR_lin (k : Nat) : Lin (outR k) := by
  intro a b
  induction k with
  | zero => exact (Nat.xor_self 0).symm
  | succ k ih =>
    simp only [outR]
    rw [ih, bit_xor, two_xor _ _ (by omega), two_xor (outR k a) _ (by omega), two_xor (outR k b) _ (by omega)]
    have e : 2 * (outR k a ^^^ outR k b) = 2 * outR k a ^^^ 2 * outR k b := by
      have := Nat.shiftLeft_xor_distrib (a := outR k a) (b := outR k b) (i := 1)
      simp only [Nat.shiftLeft_eq, Nat.pow_one] at this
      rw [Nat.mul_comm 2 (outR k a ^^^ outR k b), this, Nat.mul_comm 2 (outR k a), Nat.mul_comm 2 (outR k b)]
    rw [e, xor_four]
    congr 1
    rcases Nat.mod_two_eq_zero_or_one (a / 2 ^ k) with ha | ha <;> rcases Nat.mod_two_eq_zero_or_one (b / 2 ^ k) with hb | hb <;> rw [ha, hb] <;> rfl
theorem rev_lin : Lin rev := outR_lin 32
theorem rev_pow (j : Nat) (h : j < 32) : rev (2 ^ j) = 2 ^ (31 - j) := by
  have : ∀ j, j < 32 → rev (2 ^ j) = 2 ^ (31 - j) := by decide
  exact this j h
theorem rev_rev {v : Nat} (h : v < 4294967296) : rev (rev v) = v := by
  refine lin_ext32 (f := fun v => rev (rev v)) (g := fun v => v) (fun a b => by simp only [rev_lin a b, rev_lin (rev a) (rev b)]) (fun _ _ => rfl) (fun j hj => ?_) h
  show rev (rev (2 ^ j)) = 2 ^ j
  rw [rev_pow j hj, rev_pow (31 - j) (by omega), show 31 - (31 - j) = j from by omega]

/-! ### The document's division -/
def pol : Nat := 79764919
/-- one place of the division -/
def refStep (x : Nat) : Nat := if x / 2147483648 = 1 then 2 * x % 4294967296 ^^^ pol else 2 * x % 4294967296
theorem refStep_lt (x : Nat) : refStep x < 4294967296 := by
  unfold refStep
  split
  · exact xor_lt (by omega) (by decide)
  · omega
theorem dbl_xor (a b : Nat) : 2 * (a ^^^ b) % 4294967296 = (2 * a % 4294967296) ^^^ (2 * b % 4294967296) := by
  have h1 := Nat.shiftLeft_xor_distrib (a := a) (b := b) (i := 1)
  simp only [Nat.shiftLeft_eq, Nat.pow_one] at h1
  rw [Nat.mul_comm 2 (a ^^^ b), h1, Nat.mul_comm 2 a, Nat.mul_comm 2 b]
  exact Nat.xor_mod_two_pow (a := a * 2) (b := b * 2) (n := 32)
def refFull (x : Nat) : Nat := if x / 2 ^ 31 % 2 = 1 then 2 * x % 4294967296 ^^^ pol else 2 * x % 4294967296
theorem refFull_eq {x : Nat} (h : x < 4294967296) : refFull x = refStep x := by
  unfold refFull refStep
  have : x / 2 ^ 31 % 2 = x / 2147483648 := by omega
  rw [this]
theorem refFull_lin : Lin refFull := by
  intro a b
  unfold refFull
  rw [bit_xor, dbl_xor]
  rcases Nat.mod_two_eq_zero_or_one (a / 2 ^ 31) with ha | ha <;> rcases Nat.mod_two_eq_zero_or_one (b / 2 ^ 31) with hb | hb <;> rw [ha, hb] <;> simp
  · rw [Nat.xor_assoc]
  · rw [xor_left]
  · rw [xor_four, Nat.xor_self, Nat.xor_zero]
theorem rev_step {x : Nat} (h : x < 4294967296) : rev (refStep x) = step (rev x) := by
  rw [← refFull_eq h]
  refine lin_ext32 (f := fun x => rev (refFull x)) (g := fun x => step (rev x)) (fun a b => by simp only [refFull_lin a b, rev_lin (refFull a) (refFull b)]) (fun a b => by simp only [rev_lin a b, step_xor]) (fun j hj => ?_) h
  have : ∀ j, j < 32 → rev (refFull (2 ^ j)) = step (rev (2 ^ j)) := by decide
  exact this j hj
/-- a place of the division, a bit of the text beside it -/
def refBit (x bit : Nat) : Nat := if x / 2147483648 ≠ bit then 2 * x % 4294967296 ^^^ pol else 2 * x % 4294967296
theorem refBit_lt (x bit : Nat) : refBit x bit < 4294967296 := by
  unfold refBit
  split
  · exact xor_lt (by omega) (by decide)
  · omega
theorem rev_bit {x bit : Nat} (h : x < 4294967296) (hb : bit < 2) : rev (refBit x bit) = step (rev x ^^^ bit) := by
  rcases (by omega : bit = 0 ∨ bit = 1) with rfl | rfl
  · rw [Nat.xor_zero, ← rev_step h]
    congr 1
    unfold refBit refStep
    have : x / 2147483648 < 2 := by omega
    rcases (by omega : x / 2147483648 = 0 ∨ x / 2147483648 = 1) with e | e <;> rw [e] <;> simp
  · have e1 : rev x ^^^ 1 = rev (x ^^^ 2147483648) := by
      rw [rev_lin]
      congr 1
    have h2 : x ^^^ 2147483648 < 4294967296 := xor_lt h (by omega)
    rw [e1, ← rev_step h2]
    congr 1
    rw [← refFull_eq h2, refFull_lin, refFull_eq h, show refFull 2147483648 = pol from by decide]
    unfold refBit refStep
    rcases (by omega : x / 2147483648 = 0 ∨ x / 2147483648 = 1) with e | e <;> rw [e] <;> simp
    rw [xor_self2]
/-- eight of them are a byte -/
theorem bits_round {r s c k : Nat} (hr : r < 4294967296) (h : rev r ^^^ c / 2 ^ k = stepN k (s ^^^ c)) : rev (refBit r (c / 2 ^ k % 2)) ^^^ c / 2 ^ (k + 1) = stepN (k + 1) (s ^^^ c) := by
  rw [rev_bit hr (by omega), stepN_succ, ← h]
  have e : c / 2 ^ k = 2 * (c / 2 ^ (k + 1)) ^^^ c / 2 ^ k % 2 := by
    rw [← two_xor _ _ (by omega), Nat.pow_succ, ← Nat.div_div_eq_div_mul]
    omega
  conv => rhs; rw [e, ← Nat.xor_assoc, xor_left, step_xor, step_even]

/-! ### The document's product -/
def horner (q : Nat) : Nat → Nat → Nat
  | 0, _ => 0
  | k + 1, p => step (horner q k p) ^^^ (if p / 2 ^ (31 - k) % 2 = 1 then q else 0)
theorem horner_lin (q k : Nat) : Lin (horner q k) := by
  intro a b
  induction k with
  | zero => exact (Nat.xor_self 0).symm
  | succ k ih => simp only [horner]; rw [ih, step_xor, pick_xor, xor_four]
theorem pow_bit (j i : Nat) : 2 ^ j / 2 ^ i % 2 = 1 ↔ j = i := by
  rcases Nat.lt_trichotomy j i with h | rfl | h
  · rw [Nat.div_eq_of_lt (Nat.pow_lt_pow_right (by omega) h)]; omega
  · rw [Nat.div_self (Nat.two_pow_pos _)]; omega
  · have h2 : j = i + (j - i) := by omega
    rw [h2, Nat.pow_add, Nat.mul_div_cancel_left _ (Nat.two_pow_pos _)]
    obtain ⟨m, hm⟩ : ∃ m, j - i = m + 1 := ⟨j - i - 1, by omega⟩
    rw [hm, Nat.pow_succ]
    omega
theorem horner_pow (q j : Nat) (hj : j < 32) : ∀ k, k ≤ 32 → horner q k (2 ^ j) = if 31 - j < k then stepN (k - 1 - (31 - j)) q else 0 := by
  intro k
  induction k with
  | zero => intro _; rfl
  | succ k ih =>
    intro hk
    simp only [horner, pow_bit]
    rw [ih (by omega)]
    rcases Nat.lt_trichotomy (31 - j) k with h | h | h
    · rw [if_pos h, if_neg (by omega), if_pos (by omega), Nat.xor_zero, ← stepN_succ]
      congr 1; omega
    · rw [if_neg (by omega), if_pos (by omega), if_pos (by omega), step_zero, Nat.zero_xor, show k + 1 - 1 - (31 - j) = 0 from by omega]; rfl
    · rw [if_neg (by omega), if_neg (by omega), if_neg (by omega), step_zero]; rfl
theorem horner_mul (p q : Nat) (hp : p < 4294967296) : horner q 32 p = mul (rev p) q := by
  refine lin_ext32 (f := horner q 32) (g := fun p => mul (rev p) q) (horner_lin q 32) (fun a b => by simp only [rev_lin a b, mul_left]) (fun j hj => ?_) hp
  show horner q 32 (2 ^ j) = mul (rev (2 ^ j)) q
  rw [horner_pow q j hj 32 (Nat.le_refl _), if_pos (by omega), rev_pow j hj, mul_pow _ _ (by omega), show 32 - 1 - (31 - j) = 31 - (31 - j) from by omega]

end Go.Proofs.YtkdlehekignnhaaDoor
