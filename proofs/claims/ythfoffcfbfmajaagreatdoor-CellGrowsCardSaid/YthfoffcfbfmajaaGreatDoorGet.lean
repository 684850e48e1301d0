/- Contracts of the functions that read numbers out of bytes. -/
import Derived.Test.YthfoffcfbfmajaaGreatDoorProg
import Derived.Test.YthfoffcfbfmajaaGreatDoorBase
import Derived.Deep.QuietTactic
import Derived.BigQuiet
import Derived.Outline
namespace Go.Proofs.YthfoffcfbfmajaaGreatDoor
open Go.RowKit
set_option linter.unusedVariables false

/-- a width -/
def isW (n : Int) : Bool := decide (n = 1 ∨ n = 2 ∨ n = 4 ∨ n = 8)
theorem isW_yes {n : Int} (h : n = 1 ∨ n = 2 ∨ n = 4 ∨ n = 8) : isW n = true := decide_eq_true h
theorem isW_no {n : Int} (h : ¬ (n = 1 ∨ n = 2 ∨ n = 4 ∨ n = 8)) : isW n = false := decide_eq_false h

/-- the error of a place -/
def placeErr (len : Nat) (at_ width : Int) : Int := if isW width = false ∨ at_ < 0 then 2 else if (len : Int) - at_ < width then 10 else 0
theorem placeErr_arg {len : Nat} {at_ width : Int} (h : isW width = false ∨ at_ < 0) : placeErr len at_ width = 2 := if_pos h
theorem placeErr_short {len : Nat} {at_ width : Int} (h : ¬ (isW width = false ∨ at_ < 0)) (h2 : (len : Int) - at_ < width) : placeErr len at_ width = 10 := by
  unfold placeErr; rw [if_neg h, if_pos h2]
theorem placeErr_ok {len : Nat} {at_ width : Int} (h : ¬ (isW width = false ∨ at_ < 0)) (h2 : ¬ (len : Int) - at_ < width) : placeErr len at_ width = 0 := by
  unfold placeErr; rw [if_neg h, if_neg h2]

/-- the number that bytes write, the greatest first -/
def beFrom (n : Nat) (bs : List Nat) : Nat := bs.foldl (fun n c => n * 256 + c) n
def be (bs : List Nat) : Nat := beFrom 0 bs
theorem be_snoc (bs : List Nat) (c : Nat) : be (bs ++ [c]) = be bs * 256 + c := by simp [be, beFrom]
theorem be_take (bs : List Nat) (k : Nat) (h : k < bs.length) : be (bs.take (k + 1)) = be (bs.take k) * 256 + nth bs k := by rw [take_succ_nth bs k h, be_snoc]
theorem be_lt (bs : List Nat) (hb : IsBytes bs) (k : Nat) (h : k ≤ bs.length) : be (bs.take k) < 256 ^ k := by
  induction k with
  | zero => simp [be, beFrom]
  | succ k ih =>
    rw [be_take bs k (by omega), Nat.pow_succ]
    have := ih (by omega)
    have := hb.nth k
    omega

theorem be_round (n c : Nat) (hn : n < 256 ^ 7) (hc : c < 256) : bits .or .u64 (IntKind.u64.wrap ((n : Int) * 256)) (IntKind.u64.wrap (c : Int)) = ((n * 256 + c : Nat) : Int) := by
  have h7 : (256 : Nat) ^ 7 = 72057594037927936 := rfl
  rw [h7] at hn
  have e1 : IntKind.u64.wrap ((n : Int) * 256) = ((n * 256 : Nat) : Int) := by simp [IntKind.wrap, IntKind.bits, IntKind.signed]; omega
  have e2 : IntKind.u64.wrap (c : Int) = (c : Int) := by simp [IntKind.wrap, IntKind.bits, IntKind.signed]; omega
  rw [e1, e2, u64_or_nat _ _ (by omega) (by omega)]
  have := or_shift8 n c hc
  rw [Nat.shiftLeft_eq] at this
  rw [show n * 256 = n * 2 ^ 8 from rfl, this]

/-- what Get answers -/
def getVal (bs : List Nat) (at_ width : Int) : Nat := if placeErr bs.length at_ width = 0 then be ((bs.take (at_.toNat + width.toNat)).drop at_.toNat) else 0
theorem getVal_err {bs : List Nat} {at_ width : Int} (h : placeErr bs.length at_ width ≠ 0) : getVal bs at_ width = 0 := if_neg h
theorem getVal_ok {bs : List Nat} {at_ width : Int} (h : placeErr bs.length at_ width = 0) : getVal bs at_ width = be ((bs.take (at_.toNat + width.toNat)).drop at_.toNat) := if_pos h
theorem placeErr_zero {len : Nat} {at_ width : Int} (h : placeErr len at_ width = 0) : (width = 1 ∨ width = 2 ∨ width = 4 ∨ width = 8) ∧ 0 ≤ at_ ∧ at_ + width ≤ len := by
  unfold placeErr at h
  by_cases h1 : isW width = false ∨ at_ < 0
  · rw [if_pos h1] at h; simp at h
  · rw [if_neg h1] at h
    by_cases h2 : (len : Int) - at_ < width
    · rw [if_pos h2] at h; simp at h
    · have hw : isW width = true := by
        rcases Bool.eq_false_or_eq_true (isW width) with e | e
        · exact e
        · exact absurd (.inl e) h1
      exact ⟨of_decide_eq_true hw, by omega, by omega⟩

end Go.Proofs.YthfoffcfbfmajaaGreatDoor
