/- Contracts of the functions that read numbers out of bytes. -/
import Derived.Test.YtgpahglmhnnobaaGreatDoorProg
import Derived.Test.YtgpahglmhnnobaaGreatDoorBase
import Derived.Deep.QuietTactic
import Derived.BigQuiet
import Derived.Outline
namespace Go.Proofs.YtgpahglmhnnobaaGreatDoor
open Go.RowKit
set_option linter.unusedVariables false

/-- a width -/
def isW (n : Int) : Bool := decide (n = 1 ∨ n = 2 ∨ n = 4 ∨ n = 8)
theorem isW_yes {n : Int} (h : n = 1 ∨ n = 2 ∨ n = 4 ∨ n = 8) : isW n = true := decide_eq_true h
theorem isW_no {n : Int} (h : ¬ (n = 1 ∨ n = 2 ∨ n = 4 ∨ n = 8)) : isW n = false := decide_eq_false h

set_option maxHeartbeats 400000 in
theorem goodWidth_any (n : Int) (w : World) :
    Calls Tryz.prog 89 #[.int .i64 n] w fun e w' => e = .returned (.bool (isW n)) ∧ w = w' := by
  by_cases h1 : n = 1
  · subst h1
    go_enter Tryz.func89, Tryz.ntmps89
    go_wp2
    go_ret
    exact ⟨rfl, rfl⟩
  by_cases h2 : n = 2
  · subst h2
    go_enter Tryz.func89, Tryz.ntmps89
    go_wp2
    go_ret
    exact ⟨rfl, rfl⟩
  by_cases h4 : n = 4
  · subst h4
    go_enter Tryz.func89, Tryz.ntmps89
    go_wp2
    go_ret
    exact ⟨rfl, rfl⟩
  by_cases h8 : n = 8
  · subst h8
    go_enter Tryz.func89, Tryz.ntmps89
    go_wp2
    go_ret
    exact ⟨rfl, rfl⟩
  have hw : isW n = false := isW_no (by omega)
  have e1 : (n == 1) = false := by simpa using h1
  have e2 : (n == 2) = false := by simpa using h2
  have e4 : (n == 4) = false := by simpa using h4
  have e8 : (n == 8) = false := by simpa using h8
  go_enter Tryz.func89, Tryz.ntmps89
  go_wp2
  go_ret
  exact ⟨ret_bool hw.symm, rfl⟩

set_option maxHeartbeats 400000 in
theorem refWidth_any (n : Int) (w : World) :
    Calls Tryz.prog 44 #[.int .i64 n] w fun e w' => e = .returned (.bool (isW n)) ∧ w = w' := by
  by_cases h1 : n = 1
  · subst h1
    go_enter Tryz.func44, Tryz.ntmps44
    go_wp2
    go_ret
    exact ⟨rfl, rfl⟩
  by_cases h2 : n = 2
  · subst h2
    go_enter Tryz.func44, Tryz.ntmps44
    go_wp2
    go_ret
    exact ⟨rfl, rfl⟩
  by_cases h4 : n = 4
  · subst h4
    go_enter Tryz.func44, Tryz.ntmps44
    go_wp2
    go_ret
    exact ⟨rfl, rfl⟩
  by_cases h8 : n = 8
  · subst h8
    go_enter Tryz.func44, Tryz.ntmps44
    go_wp2
    go_ret
    exact ⟨rfl, rfl⟩
  have hw : isW n = false := isW_no (by omega)
  have e1 : (n == 1) = false := by simpa using h1
  have e2 : (n == 2) = false := by simpa using h2
  have e4 : (n == 4) = false := by simpa using h4
  have e8 : (n == 8) = false := by simpa using h8
  go_enter Tryz.func44, Tryz.ntmps44
  go_wp2
  go_ret
  exact ⟨ret_bool hw.symm, rfl⟩

/-- the error of a place -/
def placeErr (len : Nat) (at_ width : Int) : Int := if isW width = false ∨ at_ < 0 then 2 else if (len : Int) - at_ < width then 10 else 0
theorem placeErr_arg {len : Nat} {at_ width : Int} (h : isW width = false ∨ at_ < 0) : placeErr len at_ width = 2 := if_pos h
theorem placeErr_short {len : Nat} {at_ width : Int} (h : ¬ (isW width = false ∨ at_ < 0)) (h2 : (len : Int) - at_ < width) : placeErr len at_ width = 10 := by
  unfold placeErr; rw [if_neg h, if_pos h2]
theorem placeErr_ok {len : Nat} {at_ width : Int} (h : ¬ (isW width = false ∨ at_ < 0)) (h2 : ¬ (len : Int) - at_ < width) : placeErr len at_ width = 0 := by
  unfold placeErr; rw [if_neg h, if_neg h2]

set_option maxHeartbeats 400000 in
theorem checkPlace_any (A : Option Addr) (len cap : Nat) (at_ width : Int) (w : World) (hl : len ≤ maxLen) (ha : -9223372036854775808 ≤ at_) (hw : at_ ≤ 9223372036854775807) :
    Calls Tryz.prog 69 #[.slice A len cap, .int .i64 at_, .int .i64 width] w fun e w' => e = .returned (.int .i64 (placeErr len at_ width)) ∧ w = w' := by
  unfold maxLen at hl
  by_cases h1 : isW width = false
  · have hp : placeErr len at_ width = 2 := placeErr_arg (.inl h1)
    have HP := Lib.hid hp
    clear hp
    go_enter Tryz.func69, Tryz.ntmps69
    go_wp2_with (go_at_call 89; refine (goodWidth_any _ _).mono ?_; rintro e w' ⟨rfl, rfl⟩)
    go_ret
    exact ⟨ret_int HP.out.symm, rfl⟩
  have h1 : isW width = true := by simpa using h1
  by_cases h2 : at_ < 0
  · have hp : placeErr len at_ width = 2 := placeErr_arg (.inr h2)
    have HP := Lib.hid hp
    clear hp
    go_enter Tryz.func69, Tryz.ntmps69
    go_wp2_with (go_at_call 89; refine (goodWidth_any _ _).mono ?_; rintro e w' ⟨rfl, rfl⟩)
    go_ret
    exact ⟨ret_int HP.out.symm, rfl⟩
  by_cases h3 : (len : Int) - at_ < width
  · have hp : placeErr len at_ width = 10 := placeErr_short (by simp [h1, h2]) h3
    have HP := Lib.hid hp
    clear hp
    go_enter Tryz.func69, Tryz.ntmps69
    go_wp2_with (go_at_call 89; refine (goodWidth_any _ _).mono ?_; rintro e w' ⟨rfl, rfl⟩)
    go_ret
    exact ⟨ret_int HP.out.symm, rfl⟩
  · have hp : placeErr len at_ width = 0 := placeErr_ok (by simp [h1, h2]) h3
    have HP := Lib.hid hp
    clear hp
    go_enter Tryz.func69, Tryz.ntmps69
    go_wp2_with (go_at_call 89; refine (goodWidth_any _ _).mono ?_; rintro e w' ⟨rfl, rfl⟩)
    go_ret
    exact ⟨ret_int HP.out.symm, rfl⟩

/-- the number that bytes write, the greatest first -/
def beFrom (n : Nat) (bs : List Nat) : Nat := bs.foldl (fun n c => n * 256 + c) n
def be (bs : List Nat) : Nat := beFrom 0 bs
theorem be_snoc (bs : List Nat) (c : Nat) : be (bs ++ [c]) = be bs * 256 + c := by simp [be, beFrom]
theorem be_take (bs : List Nat) (k : Nat) (h : k < bs.length) : be (bs.take (k + 1)) = be (bs.take k) * 256 + nth bs k := by rw [take_succ_nth bs k h, be_snoc]
theorem be_lt (bs : List Nat) (hb : IsBytes bs) (k : Nat) (h : k ≤ bs.length) : be (bs.take k) < 256 ^ k := by
  induction k with
  | zero => simp [be, beFrom]
  | succ k ih =>
    rw [be_take bs k (by omega), Nat.pow_succ]
    have := ih (by omega)
    have := hb.nth k
    omega

theorem be_round (n c : Nat) (hn : n < 256 ^ 7) (hc : c < 256) : bits .or .u64 (IntKind.u64.wrap ((n : Int) * 256)) (IntKind.u64.wrap (c : Int)) = ((n * 256 + c : Nat) : Int) := by
  have h7 : (256 : Nat) ^ 7 = 72057594037927936 := rfl
  rw [h7] at hn
  have e1 : IntKind.u64.wrap ((n : Int) * 256) = ((n * 256 : Nat) : Int) := by simp [IntKind.wrap, IntKind.bits, IntKind.signed]; omega
  have e2 : IntKind.u64.wrap (c : Int) = (c : Int) := by simp [IntKind.wrap, IntKind.bits, IntKind.signed]; omega
  rw [e1, e2, u64_or_nat _ _ (by omega) (by omega)]
  have := or_shift8 n c hc
  rw [Nat.shiftLeft_eq] at this
  rw [show n * 256 = n * 2 ^ 8 from rfl, this]

set_option maxHeartbeats 400000 in
theorem number_any (A : Option Addr) (cap B : Nat) (bs : List Nat) (w : World) (h : RB w B A bs) (hl : bs.length ≤ 8) :
    Calls Tryz.prog 70 #[.slice A bs.length cap] w fun e w' => e = .returned (.int .u64 (be bs : Nat)) ∧ w = w' := by
  go_enter Tryz.func70, Tryz.ntmps70
  go_wp2
  go_loop [3, 8] (fun n i => ∃ k : Nat, k ≤ bs.length ∧ i = .int .i64 k ∧ n = .int .u64 (be (bs.take k) : Nat)) (fun _ i => bs.length - (intOf i).toNat)
  case atStart => exact ⟨0, Nat.zero_le _, rfl, rfl⟩
  case round =>
    obtain ⟨k, hk, rfl, rfl⟩ := hrel
    by_cases hlt : k < bs.length
    · have hbytes := h.1
      obtain ⟨b, off, rfl, _, hc⟩ := h.at_ hlt
      go_wp2
      go_round
      case rel => exact ⟨k + 1, by omega, by go_num, by
        rw [be_round _ _ (Nat.lt_of_lt_of_le (be_lt bs hbytes k (by omega)) (Nat.pow_le_pow_right (by omega) (by omega))) (hbytes.nth k), be_take bs k hlt]⟩
      case measure => simp [intOf]; omega
    · go_wp2
      go_ret
      exact ⟨ret_int (by rw [List.take_of_length_le (by omega)]), rfl⟩

/-- what Get answers -/
def getVal (bs : List Nat) (at_ width : Int) : Nat := if placeErr bs.length at_ width = 0 then be ((bs.take (at_.toNat + width.toNat)).drop at_.toNat) else 0
theorem getVal_err {bs : List Nat} {at_ width : Int} (h : placeErr bs.length at_ width ≠ 0) : getVal bs at_ width = 0 := if_neg h
theorem getVal_ok {bs : List Nat} {at_ width : Int} (h : placeErr bs.length at_ width = 0) : getVal bs at_ width = be ((bs.take (at_.toNat + width.toNat)).drop at_.toNat) := if_pos h
theorem placeErr_zero {len : Nat} {at_ width : Int} (h : placeErr len at_ width = 0) : (width = 1 ∨ width = 2 ∨ width = 4 ∨ width = 8) ∧ 0 ≤ at_ ∧ at_ + width ≤ len := by
  unfold placeErr at h
  by_cases h1 : isW width = false ∨ at_ < 0
  · rw [if_pos h1] at h; simp at h
  · rw [if_neg h1] at h
    by_cases h2 : (len : Int) - at_ < width
    · rw [if_pos h2] at h; simp at h
    · have hw : isW width = true := by
        rcases Bool.eq_false_or_eq_true (isW width) with e | e
        · exact e
        · exact absurd (.inl e) h1
      exact ⟨of_decide_eq_true hw, by omega, by omega⟩

set_option maxHeartbeats 400000 in
theorem Get_any (A : Option Addr) (cap B : Nat) (bs : List Nat) (at_ width : Int) (w : World) (h : RB w B A bs) (hl : bs.length ≤ maxLen) (hcap : bs.length ≤ cap) (hcm : cap ≤ maxLen) (ha : -9223372036854775808 ≤ at_) (hw : at_ ≤ 9223372036854775807) :
    Calls Tryz.prog 47 #[.slice A bs.length cap, .int .i64 at_, .int .i64 width] w fun e w' => e = .returned (.tuple #[.int .u64 (getVal bs at_ width : Nat), .int .i64 (placeErr bs.length at_ width)]) ∧ w = w' := by
  by_cases h0 : placeErr bs.length at_ width = 0
  · obtain ⟨hwd, hat, hsum⟩ := placeErr_zero h0
    obtain ⟨a, rfl⟩ := Int.eq_ofNat_of_zero_le hat
    obtain ⟨d, rfl⟩ : ∃ d : Nat, width = d := ⟨width.toNat, by omega⟩
    have hd : 1 ≤ d ∧ d ≤ 8 := by omega
    obtain ⟨b, off, rfl, _, _⟩ := h.all (by omega)
    have hcut := h.cut rfl a (a + d) (by omega) (by omega)
    have hlen : ((bs.take (a + d)).drop a).length = d := by simp; omega
    have hcp := checkPlace_any (some ⟨b, off, none⟩) bs.length cap (a : Int) (d : Int) w hl ha hw
    rw [h0] at hcp
    have Hv := Lib.hid (getVal_ok h0)
    have Hcp := Lib.hid hcp
    have H0 := Lib.hid h0
    have Hcut := Lib.hid hcut
    have Hn : Hid (∀ c, Calls Tryz.prog 70 #[.slice (some ⟨b, off + a, none⟩) d c] w fun e w' => e = .returned (.int .u64 (be ((bs.take (a + d)).drop a) : Nat)) ∧ w = w') := Lib.hid fun c => by
      have := number_any (some ⟨b, off + a, none⟩) c B _ w hcut (by omega)
      rwa [hlen] at this
    unfold maxLen at hl hcm
    clear hcp h0 hcut hlen h hwd
    go_enter Tryz.func47, Tryz.ntmps47
    go_wp2_with (first | (go_at_call 69; refine (Hcp.out).mono ?_; rintro e w' ⟨rfl, rfl⟩) | (go_at_call 70; refine (Hn.out _).mono ?_; rintro e w' ⟨rfl, rfl⟩))
    go_ret2
    exact ⟨ret_two (int_eq (by rw [Hv.out]; simp)) (int_eq H0.out.symm), rfl⟩
  · have Hv := Lib.hid (getVal_err h0)
    have hb : (placeErr bs.length at_ width != 0) = true := by simpa using h0
    have Hcp := Lib.hid (checkPlace_any A bs.length cap at_ width w hl ha hw)
    clear h h0
    obtain ⟨p, hp⟩ : ∃ p, p = placeErr bs.length at_ width := ⟨_, rfl⟩
    rw [← hp] at hb Hcp
    have Hp := Lib.hid hp
    clear hp
    go_enter Tryz.func47, Tryz.ntmps47
    go_wp2_with (go_at_call 69; refine (Hcp.out).mono ?_; rintro e w' ⟨rfl, rfl⟩)
    go_ret2
    exact ⟨ret_two (int_eq (by rw [Hv.out]; rfl)) (int_eq Hp.out), rfl⟩

end Go.Proofs.YtgpahglmhnnobaaGreatDoor
