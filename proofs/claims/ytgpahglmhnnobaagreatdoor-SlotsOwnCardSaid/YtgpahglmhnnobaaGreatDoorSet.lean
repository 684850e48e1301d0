/- Contracts of the functions that write numbers into bytes. -/
import Derived.Test.YtgpahglmhnnobaaGreatDoorRef
namespace Go.Proofs.YtgpahglmhnnobaaGreatDoor
open Go.RowKit
set_option linter.unusedVariables false

/-- the bytes of n in d bytes, the greatest first -/
def enc : Nat → Nat → List Nat
  | 0, _ => []
  | d + 1, n => n / 256 ^ d % 256 :: enc d n
theorem enc_length (d n : Nat) : (enc d n).length = d := by
  induction d with
  | zero => rfl
  | succ d ih => simp [enc, ih]
theorem enc_bytes (d n : Nat) : IsBytes (enc d n) := by
  induction d with
  | zero => exact IsBytes.nil
  | succ d ih =>
    intro x hx
    simp only [enc, List.mem_cons] at hx
    rcases hx with rfl | h
    · omega
    · exact ih x h
theorem enc_drop (d n k : Nat) (h : k ≤ d) : (enc d n).drop k = enc (d - k) n := by
  induction k generalizing d with
  | zero => simp
  | succ k ih =>
    obtain ⟨d', rfl⟩ : ∃ d', d = d' + 1 := ⟨d - 1, by omega⟩
    simp only [enc, List.drop_succ_cons]
    rw [ih d' (by omega)]
    congr 1
    omega
theorem enc_nth (d n k : Nat) (h : k < d) : nth (enc d n) k = n / 256 ^ (d - 1 - k) % 256 := by
  have h1 := enc_drop d n k (by omega)
  rw [drop_nth _ _ (by rw [enc_length]; exact h)] at h1
  obtain ⟨d', hd⟩ : ∃ d', d - k = d' + 1 := ⟨d - k - 1, by omega⟩
  rw [hd] at h1
  simp only [enc, List.cons.injEq] at h1
  rw [h1.1, show d - 1 - k = d' from by omega]
theorem be_enc (d n : Nat) : be (enc d n) = n % 256 ^ d := by
  induction d with
  | zero => simp [enc, be, beFrom, Nat.mod_one]
  | succ d ih =>
    simp only [enc]
    rw [be_cons, ih, enc_length, Nat.pow_succ, Nat.mod_mul, Nat.mul_comm]
    omega

/-- what appends to v make: a row that holds bs -/
def Apps (base : Nat) (v : Value) (bs : List Nat) (w : World) (e : Ending) (w' : World) : Prop := ∃ v', e = .returned v' ∧ OB w' base 5 v' bs ∧ Grew w w' v v'

theorem shr_byte (n d i : Nat) (hn : n < 18446744073709551616) (hd : d ≤ 8) (hi : i < d) : n / 2 ^ (8 * i) % 256 = nth (enc d n) (d - 1 - i) := by
  rw [enc_nth d n _ (by omega), show d - 1 - (d - 1 - i) = i from by omega, Nat.pow_mul]

set_option maxHeartbeats 400000 in
theorem appendNum_any (base : Nat) (v : Value) (bs : List Nat) (d n : Nat) (w : World) (h : OB w base 5 v bs) (hB : base ≤ w.heap.size) (hl : bs.length + 8 ≤ 140737488355328) (hd : d ≤ 8) (hn : n < 18446744073709551616) :
    Calls Tryz.prog 90 #[v, .int .i64 d, .int .u64 n] w (Apps base v (bs ++ enc d n) w) := by
  obtain ⟨i0, hi, hz0, hz1, hz2⟩ := info_parts u8_info
  go_enter Tryz.func90, Tryz.ntmps90
  go_wp2
  go_loopw [0, 7] (fun u i wr => ∃ k : Nat, k ≤ d ∧ i = .int .i64 ((k : Int) - 1) ∧ OB wr base 5 u (bs ++ (enc d n).take (d - k)) ∧ Grew w wr v u) (fun _ i _ => (intOf i + 1).toNat)
  case atStart => 
    refine ⟨d, Nat.le_refl _, rfl, ?_, Grew.refl _ _⟩
    rw [Nat.sub_self]; simpa using h
  case round =>
    obtain ⟨k, hk, rfl, hown, hg⟩ := hrel
    have hs := hg.1.size
    by_cases hlt : 0 < k
    · obtain ⟨i, rfl⟩ : ∃ i, k = i + 1 := ⟨k - 1, by omega⟩
      have hb := shr_byte n d i hn hd (by omega)
      have hlt2 : nth (enc d n) (d - 1 - i) < 256 := (enc_bytes d n).nth _
      have hq : ((n : Int) / 2 ^ (8 * i) % 256) = ((nth (enc d n) (d - 1 - i) : Nat) : Int) := by rw [← hb]; simp
      have hlen : (bs ++ (enc d n).take (d - (i + 1))).length + 1 ≤ 140737488355328 := by simp [enc_length]; omega
      have htk := take_succ_nth (enc d n) (d - 1 - i) (by rw [enc_length]; omega)
      have Hq := Lib.hid hq
      have Htk := Lib.hid htk
      have Hb := Lib.hid hb
      clear hq htk hb
      go_wp2_with (at_builtin; refine wpList_append_lit8 _ rfl _ _ 25 rfl base 5 i0 Tryz.underlying25 hi hz0 hz1 hz2 _ _ _ (by rfl) hown (by rfl) _ Hq.out hlt2 hlen (by omega) ?_; intro v1 w1 hown1 hg1 hat1)
      have hg2 := hg.trans (Grew.of hg1 hat1 (Nat.le_succ _))
      go_roundw
      case rel => exact ⟨i, by omega, rfl, by rw [show d - i = d - 1 - i + 1 from by omega, Htk.out, ← List.append_assoc]; rw [show d - (i + 1) = d - 1 - i from by omega] at hown1; exact hown1, hg2⟩
      case measure => simp [intOf]
    · obtain rfl : k = 0 := by omega
      go_wp2
      go_ret
      exact ⟨_, rfl, by rw [List.take_of_length_le (by rw [enc_length]; omega)] at hown; exact hown, hg⟩

/-- b with n laid into it -/
def setVal (bs : List Nat) (at_ width : Int) (n : Nat) : List Nat :=
  if placeErr bs.length at_ width = 0 then bs.take at_.toNat ++ enc width.toNat n ++ bs.drop (at_.toNat + width.toNat) else []
theorem setVal_err {bs : List Nat} {at_ width : Int} {n : Nat} (h : placeErr bs.length at_ width ≠ 0) : setVal bs at_ width n = [] := if_neg h
theorem setVal_ok {bs : List Nat} {at_ width : Int} {n : Nat} (h : placeErr bs.length at_ width = 0) : setVal bs at_ width n = bs.take at_.toNat ++ enc width.toNat n ++ bs.drop (at_.toNat + width.toNat) := if_pos h

/-- what Set answers -/
def SetPost (bs : List Nat) (at_ width : Int) (n : Nat) (w : World) (e : Ending) (w' : World) : Prop :=
  ∃ v, e = .returned (.tuple #[v, .int .i64 (placeErr bs.length at_ width)]) ∧ OB w' w.heap.size 5 v (setVal bs at_ width n) ∧ Below w.heap.size w w'

/-! ### speaks -/
theorem sp_get (w : World) : Calls Tryz.prog 47 #[.slice (some ⟨w.heap.size, 0, none⟩) 3 3, .int .i64 1, .int .i64 2] (w.alloc (.cells #[.int .u8 1, .int .u8 2, .int .u8 3] 5))
    fun e w' => e = .returned (.tuple #[.int .u64 515, .int .i64 0]) ∧ w.alloc (.cells #[.int .u8 1, .int .u8 2, .int .u8 3] 5) = w' :=
  Get_any (some ⟨w.heap.size, 0, none⟩) 3 (w.heap.size + 1) [1, 2, 3] 1 2 _ (RB.lit w 5 (by unfold IsBytes; decide) _ rfl) (by decide) (by decide) (by decide) (by decide) (by decide)
end Go.Proofs.YtgpahglmhnnobaaGreatDoor
