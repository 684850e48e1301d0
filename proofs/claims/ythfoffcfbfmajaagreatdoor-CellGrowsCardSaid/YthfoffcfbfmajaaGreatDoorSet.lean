/- Contracts of the functions that write numbers into bytes. -/
import Derived.Test.YthfoffcfbfmajaaGreatDoorRef
namespace Go.Proofs.YthfoffcfbfmajaaGreatDoor
open Go.RowKit
set_option linter.unusedVariables false

/-- the bytes of n in d bytes, the greatest first -/
def enc : Nat → Nat → List Nat
  | 0, _ => []
  | d + 1, n => n / 256 ^ d % 256 :: enc d n
theorem enc_length (d n : Nat) : (enc d n).length = d := by
  induction d with
  | zero => rfl
  | succ d ih => simp [enc, ih]
theorem enc_bytes (d n : Nat) : IsBytes (enc d n) := by
  induction d with
  | zero => exact IsBytes.nil
  | succ d ih =>
    intro x hx
    simp only [enc, List.mem_cons] at hx
    rcases hx with rfl | h
    · omega
    · exact ih x h
theorem enc_drop (d n k : Nat) (h : k ≤ d) : (enc d n).drop k = enc (d - k) n := by
  induction k generalizing d with
  | zero => simp
  | succ k ih =>
    obtain ⟨d', rfl⟩ : ∃ d', d = d' + 1 := ⟨d - 1, by omega⟩
    simp only [enc, List.drop_succ_cons]
    rw [ih d' (by omega)]
    congr 1
    omega
theorem enc_nth (d n k : Nat) (h : k < d) : nth (enc d n) k = n / 256 ^ (d - 1 - k) % 256 := by
  have h1 := enc_drop d n k (by omega)
  rw [drop_nth _ _ (by rw [enc_length]; exact h)] at h1
  obtain ⟨d', hd⟩ : ∃ d', d - k = d' + 1 := ⟨d - k - 1, by omega⟩
  rw [hd] at h1
  simp only [enc, List.cons.injEq] at h1
  rw [h1.1, show d - 1 - k = d' from by omega]
theorem be_enc (d n : Nat) : be (enc d n) = n % 256 ^ d := by
  induction d with
  | zero => simp [enc, be, beFrom, Nat.mod_one]
  | succ d ih =>
    simp only [enc]
    rw [be_cons, ih, enc_length, Nat.pow_succ, Nat.mod_mul, Nat.mul_comm]
    omega

/-- what appends to v make: a row that holds bs -/
def Apps (base : Nat) (v : Value) (bs : List Nat) (w : World) (e : Ending) (w' : World) : Prop := ∃ v', e = .returned v' ∧ OB w' base 5 v' bs ∧ Grew w w' v v'

theorem shr_byte (n d i : Nat) (hn : n < 18446744073709551616) (hd : d ≤ 8) (hi : i < d) : n / 2 ^ (8 * i) % 256 = nth (enc d n) (d - 1 - i) := by
  rw [enc_nth d n _ (by omega), show d - 1 - (d - 1 - i) = i from by omega, Nat.pow_mul]

/-- b with n laid into it -/
def setVal (bs : List Nat) (at_ width : Int) (n : Nat) : List Nat :=
  if placeErr bs.length at_ width = 0 then bs.take at_.toNat ++ enc width.toNat n ++ bs.drop (at_.toNat + width.toNat) else []
theorem setVal_err {bs : List Nat} {at_ width : Int} {n : Nat} (h : placeErr bs.length at_ width ≠ 0) : setVal bs at_ width n = [] := if_neg h
theorem setVal_ok {bs : List Nat} {at_ width : Int} {n : Nat} (h : placeErr bs.length at_ width = 0) : setVal bs at_ width n = bs.take at_.toNat ++ enc width.toNat n ++ bs.drop (at_.toNat + width.toNat) := if_pos h

/-- what Set answers -/
def SetPost (bs : List Nat) (at_ width : Int) (n : Nat) (w : World) (e : Ending) (w' : World) : Prop :=
  ∃ v, e = .returned (.tuple #[v, .int .i64 (placeErr bs.length at_ width)]) ∧ OB w' w.heap.size 5 v (setVal bs at_ width n) ∧ Below w.heap.size w w'

/-! ### speaks -/
end Go.Proofs.YthfoffcfbfmajaaGreatDoor
