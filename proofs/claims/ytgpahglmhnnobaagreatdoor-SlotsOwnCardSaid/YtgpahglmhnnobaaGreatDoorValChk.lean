/- Which values are right: the small functions, of the program and of the document. -/
import Derived.Test.YtgpahglmhnnobaaGreatDoorProg
import Derived.Test.YtgpahglmhnnobaaGreatDoorList
import Derived.Deep.QuietTactic
import Derived.BigQuiet
import Derived.Outline
namespace Go.Proofs.YtgpahglmhnnobaaGreatDoor
open Go.RowKit
set_option linter.unusedVariables false

def gk (k : Int) : Bool := decide (1 ≤ k ∧ k ≤ 8)
theorem gk_yes {k : Int} (h : 1 ≤ k ∧ k ≤ 8) : gk k = true := decide_eq_true h
theorem gk_no {k : Int} (h : ¬ (1 ≤ k ∧ k ≤ 8)) : gk k = false := decide_eq_false h
set_option maxHeartbeats 400000 in
theorem goodKind_any (k : Int) (w : World) : Calls Tryz.prog 85 #[.int .i64 k] w fun e w' => e = .returned (.bool (gk k)) ∧ w = w' := by
  by_cases h1 : 1 ≤ k
  · by_cases h2 : k ≤ 8
    · have H := Lib.hid (gk_yes ⟨h1, h2⟩)
      go_enter Tryz.func85, Tryz.ntmps85
      go_wp2
      go_ret
      exact ⟨ret_bool H.out.symm, rfl⟩
    · have H := Lib.hid (gk_no (k := k) (by omega))
      go_enter Tryz.func85, Tryz.ntmps85
      go_wp2
      go_ret
      exact ⟨ret_bool (by rw [H.out]), rfl⟩
  · have H := Lib.hid (gk_no (k := k) (by omega))
    go_enter Tryz.func85, Tryz.ntmps85
    go_wp2
    go_ret
    exact ⟨ret_bool H.out.symm, rfl⟩

set_option maxHeartbeats 400000 in
theorem isList_any (k : Int) (w : World) : Calls Tryz.prog 63 #[.int .i64 k] w fun e w' => e = .returned (.bool (decide (4 < k))) ∧ w = w' := by
  go_enter Tryz.func63, Tryz.ntmps63
  go_wp2
  go_ret
  exact ⟨rfl, rfl⟩
theorem isList_yes {k : Int} (h : 4 < k) (w : World) : Calls Tryz.prog 63 #[.int .i64 k] w fun e w' => e = .returned (.bool true) ∧ w = w' :=
  (isList_any k w).mono fun e w' ⟨he, hw⟩ => ⟨by rw [he, decide_eq_true h], hw⟩
theorem isList_no {k : Int} (h : ¬ 4 < k) (w : World) : Calls Tryz.prog 63 #[.int .i64 k] w fun e w' => e = .returned (.bool false) ∧ w = w' :=
  (isList_any k w).mono fun e w' ⟨he, hw⟩ => ⟨by rw [he, decide_eq_false h], hw⟩

/-- the kind of a kind's elements -/
def elK (k : Int) : Int := if 4 < k then k - 4 else k
theorem elK_yes {k : Int} (h : 4 < k) : elK k = k - 4 := if_pos h
theorem elK_no {k : Int} (h : ¬ 4 < k) : elK k = k := if_neg h
set_option maxHeartbeats 400000 in
theorem elementKind_any (k : Int) (w : World) (h1 : 1 ≤ k) (h2 : k ≤ 8) : Calls Tryz.prog 66 #[.int .i64 k] w fun e w' => e = .returned (.int .i64 (elK k)) ∧ w = w' := by
  by_cases h : 4 < k
  · have H := Lib.hid (elK_yes h)
    go_enter Tryz.func66, Tryz.ntmps66
    go_wp2_with (go_at_call 63; refine (isList_yes h _).mono ?_; rintro e w' ⟨rfl, rfl⟩)
    go_ret
    exact ⟨ret_int H.out.symm, rfl⟩
  · have H := Lib.hid (elK_no h)
    go_enter Tryz.func66, Tryz.ntmps66
    go_wp2_with (go_at_call 63; refine (isList_no h _).mono ?_; rintro e w' ⟨rfl, rfl⟩)
    go_ret
    exact ⟨ret_int H.out.symm, rfl⟩

def nwid (e : Int) : Int := if e = 1 then 1 else 8
set_option maxHeartbeats 400000 in
theorem numberWidth_any (k : Int) (w : World) : Calls Tryz.prog 65 #[.int .i64 k] w fun e w' => e = .returned (.int .i64 (nwid k)) ∧ w = w' := by
  by_cases h : k = 1
  · subst h
    go_enter Tryz.func65, Tryz.ntmps65
    go_wp2
    go_ret
    exact ⟨rfl, rfl⟩
  · have H : Hid (nwid k = 8) := Lib.hid (if_neg h)
    have hb : (k == 1) = false := by simpa using h
    clear h
    go_enter Tryz.func65, Tryz.ntmps65
    go_wp2
    go_ret
    exact ⟨ret_int H.out.symm, rfl⟩

set_option maxHeartbeats 400000 in
theorem checkLength_any (k : Int) (w : World) : Calls Tryz.prog 104 #[.int .i64 k] w fun e w' => e = .returned (.int .i64 (if 1000 < k then 44 else 0)) ∧ w = w' := by
  by_cases h : 1000 < k
  · rw [if_pos h]
    go_enter Tryz.func104, Tryz.ntmps104
    go_wp2
    go_ret
    exact ⟨rfl, rfl⟩
  · rw [if_neg h]
    go_enter Tryz.func104, Tryz.ntmps104
    go_wp2
    go_ret
    exact ⟨rfl, rfl⟩
set_option maxHeartbeats 400000 in
theorem checkCount_any (k : Int) (w : World) : Calls Tryz.prog 87 #[.int .i64 k] w fun e w' => e = .returned (.int .i64 (if 40 < k then 45 else 0)) ∧ w = w' := by
  by_cases h : 40 < k
  · rw [if_pos h]
    go_enter Tryz.func87, Tryz.ntmps87
    go_wp2
    go_ret
    exact ⟨rfl, rfl⟩
  · rw [if_neg h]
    go_enter Tryz.func87, Tryz.ntmps87
    go_wp2
    go_ret
    exact ⟨rfl, rfl⟩

/-- the 64 bits of an int64 -/
def u64 (n : Int) : Nat := (n % 18446744073709551616).toNat
theorem u64_wrap (n : Int) : IntKind.u64.wrap n = (u64 n : Int) := by rw [wrapU64]; unfold u64; omega
theorem u64_lt (n : Int) : u64 n < 18446744073709551616 := by unfold u64; omega
/-- a NaN in another form -/
def nanBad (n : Int) : Bool := decide (u64 n / 4503599627370496 % 2048 = 2047 ∧ u64 n % 4503599627370496 ≠ 0 ∧ u64 n ≠ 9221120237041090560)
/-- what is wrong with a number -/
def numW (e n : Int) : Int := if e = 1 ∧ n ≠ 0 ∧ n ≠ 1 then 42 else if e = 3 ∧ nanBad n = true then 43 else 0
theorem numW_bool {n : Int} (h0 : n ≠ 0) (h1 : n ≠ 1) : numW 1 n = 42 := if_pos ⟨rfl, h0, h1⟩
theorem numW_bool0 : numW 1 0 = 0 := by decide
theorem numW_bool1 : numW 1 1 = 0 := by decide
theorem numW_nan {n : Int} (h : nanBad n = true) : numW 3 n = 43 := by unfold numW; rw [if_neg (by omega), if_pos ⟨rfl, h⟩]
theorem numW_float {n : Int} (h : nanBad n = false) : numW 3 n = 0 := by unfold numW; rw [if_neg (by omega), if_neg (by rw [h]; simp)]
theorem numW_other {e n : Int} (h1 : e ≠ 1) (h3 : e ≠ 3) : numW e n = 0 := by unfold numW; rw [if_neg (by omega), if_neg (by omega)]
theorem i64_mask (n : Int) : bits .and .i64 n 9223372036854775807 = ((u64 n % 9223372036854775808 : Nat) : Int) := by
  have h63 : (BitVec.ofInt 64 9223372036854775807).toNat = 2 ^ 63 - 1 := by decide
  have key : (BitVec.ofInt 64 n &&& BitVec.ofInt 64 9223372036854775807).toNat = (n % ((2 ^ 64 : Nat) : Int)).toNat % 2 ^ 63 := by
    rw [BitVec.toNat_and, BitVec.toNat_ofInt, h63, Nat.and_two_pow_sub_one_eq_mod]
  show IntKind.i64.wrap ((BitVec.ofInt 64 n &&& BitVec.ofInt 64 9223372036854775807).toNat : Nat) = _
  rw [key, IntKind.wrap_i64]
  unfold u64
  omega
theorem nan_gt (n : Int) : decide (9218868437227405312 < bits .and .i64 n 9223372036854775807) = decide (u64 n / 4503599627370496 % 2048 = 2047 ∧ u64 n % 4503599627370496 ≠ 0) := by
  rw [i64_mask]
  apply decide_eq_decide.2
  have := u64_lt n
  omega
theorem nan_ne (n : Int) (h1 : -9223372036854775808 ≤ n) (h2 : n ≤ 9223372036854775807) : (n != 9221120237041090560) = decide (u64 n ≠ 9221120237041090560) := by
  rw [Bool.eq_iff_iff, bne_iff_ne, decide_eq_true_iff]
  unfold u64
  omega

set_option maxRecDepth 100000 in
set_option maxHeartbeats 1000000 in
theorem checkNumber_any (k n : Int) (w : World) (h1 : -9223372036854775808 ≤ n) (h2 : n ≤ 9223372036854775807) : Calls Tryz.prog 103 #[.int .i64 k, .int .i64 n] w fun e w' => e = .returned (.int .i64 (numW k n)) ∧ w = w' := by
  by_cases hk1 : k = 1
  · subst hk1
    by_cases hn0 : n = 0
    · subst hn0
      rw [numW_bool0]
      go_enter Tryz.func103, Tryz.ntmps103
      go_wp2
      go_ret
      exact ⟨rfl, rfl⟩
    by_cases hn1 : n = 1
    · subst hn1
      rw [numW_bool1]
      go_enter Tryz.func103, Tryz.ntmps103
      go_wp2
      go_ret
      exact ⟨rfl, rfl⟩
    rw [numW_bool hn0 hn1]
    have b0 : (n != 0) = true := by simpa using hn0
    have b1 : (n != 1) = true := by simpa using hn1
    clear hn0 hn1
    go_enter Tryz.func103, Tryz.ntmps103
    go_wp2
    go_ret
    exact ⟨rfl, rfl⟩
  by_cases hk3 : k = 3
  · subst hk3
    have g := nan_gt n
    have g2 := nan_ne n h1 h2
    by_cases hb : nanBad n = true
    · rw [numW_nan hb]
      have hb' : u64 n / 4503599627370496 % 2048 = 2047 ∧ u64 n % 4503599627370496 ≠ 0 ∧ u64 n ≠ 9221120237041090560 := by unfold nanBad at hb; exact of_decide_eq_true hb
      rw [show decide (u64 n / 4503599627370496 % 2048 = 2047 ∧ u64 n % 4503599627370496 ≠ 0) = true from decide_eq_true ⟨hb'.1, hb'.2.1⟩] at g
      rw [decide_eq_true hb'.2.2] at g2
      clear hb hb' hk1
      go_enter Tryz.func103, Tryz.ntmps103
      go_wp2
      go_ret
      exact ⟨rfl, rfl⟩
    · have hb : nanBad n = false := by simpa using hb
      rw [numW_float hb]
      have hb' : ¬ (u64 n / 4503599627370496 % 2048 = 2047 ∧ u64 n % 4503599627370496 ≠ 0 ∧ u64 n ≠ 9221120237041090560) := by unfold nanBad at hb; exact of_decide_eq_false hb
      by_cases hc : u64 n / 4503599627370496 % 2048 = 2047 ∧ u64 n % 4503599627370496 ≠ 0
      · rw [decide_eq_true hc] at g
        rw [decide_eq_false (fun h => hb' ⟨hc.1, hc.2, h⟩)] at g2
        clear hb hb' hk1 hc
        go_enter Tryz.func103, Tryz.ntmps103
        go_wp2
        go_ret
        exact ⟨rfl, rfl⟩
      · rw [decide_eq_false hc] at g
        clear hb hb' hk1 hc g2
        go_enter Tryz.func103, Tryz.ntmps103
        go_wp2
        go_ret
        exact ⟨rfl, rfl⟩
  · rw [numW_other hk1 hk3]
    have b0 : (k == 1) = false := by simpa using hk1
    have b1 : (k == 3) = false := by simpa using hk3
    clear hk1 hk3
    go_enter Tryz.func103, Tryz.ntmps103
    go_wp2
    go_ret
    exact ⟨rfl, rfl⟩

end Go.Proofs.YtgpahglmhnnobaaGreatDoor
