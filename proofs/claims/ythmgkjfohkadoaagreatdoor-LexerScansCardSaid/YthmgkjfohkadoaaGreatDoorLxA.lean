/- lexer: what a byte is; a byte in a text; Quote. -/
import Derived.Test.YthmgkjfohkadoaaGreatDoorLxPure2
import Derived.Test.YthmgkjfohkadoaaGreatDoorLxBuild
import Derived.Test.YthmgkjfohkadoaaGreatDoorCsStr
namespace Go.Proofs.YthmgkjfohkadoaaGreatDoor
open Go.RowKit
set_option linter.unusedVariables false

theorem ret_boolL {a b : Bool} (h : a = b) : Ending.returned (.bool a) = .returned (.bool b) := by rw [h]
theorem lxP_nat (x : UInt8) : lxP x = decide (32 ≤ x.toNat ∧ x.toNat ≤ 126) := by simp [lxP, UInt8.le_iff_toNat_le]
theorem lxD_nat (x : UInt8) : lxD x = decide (48 ≤ x.toNat ∧ x.toNat ≤ 57) := by simp [lxD, UInt8.le_iff_toNat_le]
theorem lxL_nat (x : UInt8) : lxL x = decide ((97 ≤ x.toNat ∧ x.toNat ≤ 122) ∨ (65 ≤ x.toNat ∧ x.toNat ≤ 90) ∨ x.toNat = 95) := by
  simp [lxL, UInt8.le_iff_toNat_le, ← UInt8.toNat_inj]
theorem isPrintable_any (x : UInt8) (w : World) :
    Calls Tryz.prog 46 #[.int .u8 (x.toNat : Int)] w fun e w' => e = .returned (.bool (lxP x)) ∧ w = w' := by
  rw [lxP_nat]
  generalize x.toNat = c
  have hc : c < 32 ∨ (32 ≤ c ∧ c ≤ 126) ∨ 126 < c := by omega
  rcases hc with h | h | h
  all_goals
    go_enter Tryz.func46, Tryz.ntmps46
    go_wp2
    go_ret
    exact ⟨ret_boolL (by first | (rw [Bool.eq_iff_iff]; done) | (rw [Bool.eq_iff_iff]; simp; done) | (rw [Bool.eq_iff_iff]; simp; omega)), rfl⟩
theorem isDigit_any (x : UInt8) (w : World) :
    Calls Tryz.prog 40 #[.int .u8 (x.toNat : Int)] w fun e w' => e = .returned (.bool (lxD x)) ∧ w = w' := by
  rw [lxD_nat]
  generalize x.toNat = c
  have hc : c < 48 ∨ (48 ≤ c ∧ c ≤ 57) ∨ 57 < c := by omega
  rcases hc with h | h | h
  all_goals
    go_enter Tryz.func40, Tryz.ntmps40
    go_wp2
    go_ret
    exact ⟨ret_boolL (by first | (rw [Bool.eq_iff_iff]; done) | (rw [Bool.eq_iff_iff]; simp; done) | (rw [Bool.eq_iff_iff]; simp; omega)), rfl⟩
set_option maxHeartbeats 1000000 in
theorem beginsWord_any (x : UInt8) (w : World) :
    Calls Tryz.prog 18 #[.int .u8 (x.toNat : Int)] w fun e w' => e = .returned (.bool (lxL x)) ∧ w = w' := by
  rw [lxL_nat]
  generalize x.toNat = c
  have hc : (97 ≤ c ∧ c ≤ 122) ∨ (65 ≤ c ∧ c ≤ 90) ∨ c = 95 ∨ (122 < c) ∨ (c < 65) ∨ (90 < c ∧ c < 97 ∧ c ≠ 95) := by omega
  rcases hc with h | h | rfl | h | h | h
  case inr.inr.inl =>
    go_enter Tryz.func18, Tryz.ntmps18
    go_wp2
    go_ret
    exact ⟨ret_boolL (by first | (rw [Bool.eq_iff_iff]; done) | (rw [Bool.eq_iff_iff]; simp; done) | (rw [Bool.eq_iff_iff]; simp; omega)), rfl⟩
  all_goals
    have e95 : ((c : Int) == 95) = false := by rw [beq_eq_false_iff_ne]; omega
    go_enter Tryz.func18, Tryz.ntmps18
    go_wp2
    go_ret
    exact ⟨ret_boolL (by first | (rw [Bool.eq_iff_iff]; done) | (rw [Bool.eq_iff_iff]; simp; done) | (rw [Bool.eq_iff_iff]; simp; omega)), rfl⟩
theorem continuesWord_any (x : UInt8) (w : World) :
    Calls Tryz.prog 38 #[.int .u8 (x.toNat : Int)] w fun e w' => e = .returned (.bool (lxW x)) ∧ w = w' := by
  have HB := Lib.hid (beginsWord_any x w)
  have HD := Lib.hid (isDigit_any x w)
  have hW : lxW x = (lxL x || lxD x) := rfl
  rw [hW]
  clear hW
  generalize lxL x = b at HB ⊢
  generalize lxD x = d at HD ⊢
  cases b
  · go_enter Tryz.func38, Tryz.ntmps38
    go_wp2_with fail
    refine HB.out.mono ?_
    rintro e w' ⟨rfl, rfl⟩
    go_wp2_with fail
    refine HD.out.mono ?_
    rintro e w' ⟨rfl, rfl⟩
    go_wp2
    go_ret
    exact ⟨rfl, rfl⟩
  · go_enter Tryz.func38, Tryz.ntmps38
    go_wp2_with fail
    refine HB.out.mono ?_
    rintro e w' ⟨rfl, rfl⟩
    go_wp2
    go_ret
    exact ⟨rfl, rfl⟩
theorem continuesNumber_any (x : UInt8) (w : World) :
    Calls Tryz.prog 41 #[.int .u8 (x.toNat : Int)] w fun e w' => e = .returned (.bool (lxN x)) ∧ w = w' := by
  have HB := Lib.hid (continuesWord_any x w)
  have hN : lxN x = (lxW x || decide (x.toNat = 46)) := by
    unfold lxN
    congr 1
    rw [Bool.eq_iff_iff]
    simp [← UInt8.toNat_inj]
  rw [hN]
  clear hN
  generalize lxW x = b at HB ⊢
  generalize x.toNat = c at HB ⊢
  cases b
  · by_cases h : c = 46
    · subst h
      go_enter Tryz.func41, Tryz.ntmps41
      go_wp2_with fail
      refine HB.out.mono ?_
      rintro e w' ⟨rfl, rfl⟩
      go_wp2
      go_ret
      exact ⟨rfl, rfl⟩
    · have e46 : ((c : Int) == 46) = false := by rw [beq_eq_false_iff_ne]; omega
      have hd : decide (c = 46) = false := decide_eq_false h
      rw [hd]
      go_enter Tryz.func41, Tryz.ntmps41
      go_wp2_with fail
      refine HB.out.mono ?_
      rintro e w' ⟨rfl, rfl⟩
      go_wp2
      go_ret
      exact ⟨rfl, rfl⟩
  · go_enter Tryz.func41, Tryz.ntmps41
    go_wp2_with fail
    refine HB.out.mono ?_
    rintro e w' ⟨rfl, rfl⟩
    go_wp2
    go_ret
    exact ⟨rfl, rfl⟩

/-! ### a byte in a text -/
def shortB : Bs := [92, 39, 10, 13, 9]
theorem short_miss {c : UInt8} (h1 : c ≠ 92) (h2 : c ≠ 39) (h3 : c ≠ 10) (h4 : c ≠ 13) (h5 : c ≠ 9) : Lib.indexByte [92, 39, 10, 13, 9] c = -1 := by
  have e1 : ((92 : UInt8) == c) = false := by rw [beq_eq_false_iff_ne]; exact fun h => h1 h.symm
  have e2 : ((39 : UInt8) == c) = false := by rw [beq_eq_false_iff_ne]; exact fun h => h2 h.symm
  have e3 : ((10 : UInt8) == c) = false := by rw [beq_eq_false_iff_ne]; exact fun h => h3 h.symm
  have e4 : ((13 : UInt8) == c) = false := by rw [beq_eq_false_iff_ne]; exact fun h => h4 h.symm
  have e5 : ((9 : UInt8) == c) = false := by rw [beq_eq_false_iff_ne]; exact fun h => h5 h.symm
  simp [Lib.indexByte, e1, e2, e3, e4, e5]
theorem idx_any (l : Bs) (c : UInt8) (w : World) : Calls Tryz.prog 14 #[.string (mkS l), .int .u8 (c.toNat : Int)] w fun e w' => e = .returned (.int .i64 (Lib.indexByte l c)) ∧ w = w' :=
  (Tryz.strings_IndexByte (mkS l) (c.toNat : Int) w).mono fun e w' ⟨he, hw⟩ => ⟨by rw [he]; simp [mkS], hw.symm⟩
theorem hexL_at {n : Nat} (h : n < 16) : ∃ h' : n < (⟨#[48, 49, 50, 51, 52, 53, 54, 55, 56, 57, 97, 98, 99, 100, 101, 102]⟩ : ByteArray).size, (⟨#[48, 49, 50, 51, 52, 53, 54, 55, 56, 57, 97, 98, 99, 100, 101, 102]⟩ : ByteArray)[n]'h' = hxD n := by
  have key : ∀ k : Fin 16, ∃ h' : k.val < (⟨#[48, 49, 50, 51, 52, 53, 54, 55, 56, 57, 97, 98, 99, 100, 101, 102]⟩ : ByteArray).size, (⟨#[48, 49, 50, 51, 52, 53, 54, 55, 56, 57, 97, 98, 99, 100, 101, 102]⟩ : ByteArray)[k.val]'h' = hxD k.val := by decide
  exact key ⟨n, h⟩
theorem nib_lo (c : UInt8) : bits .and .u8 (c.toNat : Int) 15 = ((c.toNat % 16 : Nat) : Int) := by
  have key : ∀ k : Fin 256, bits .and .u8 (k.val : Int) 15 = ((k.val % 16 : Nat) : Int) := by decide +kernel
  exact key ⟨c.toNat, c.toNat_lt⟩
end Go.Proofs.YthmgkjfohkadoaaGreatDoor
