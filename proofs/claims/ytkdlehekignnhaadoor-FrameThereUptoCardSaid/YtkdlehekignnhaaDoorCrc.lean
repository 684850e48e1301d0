/- Contracts of the check sum's functions: the program's and the document's own. -/
import Derived.Test.YtkdlehekignnhaaDoorProg
import Derived.Test.YtkdlehekignnhaaDoorBase
import Derived.Test.YtkdlehekignnhaaDoorPolyTwo
import Derived.Outline
namespace Go.Proofs.YtkdlehekignnhaaDoor
open Go.RowKit
set_option linter.unusedVariables false

/-- the program's table stands in block 0 -/
def TabW (w : World) : Prop := 0 < w.heap.size ∧ ∀ i, i < 16 → w.cell? ⟨0, i, none⟩ = some (.int .u32 ((tab.getD i 0 : Nat) : Int))
theorem TabW.below {w w' : World} {B : Nat} (h : TabW w) (hb : Below B w w') (hB : 0 < B) : TabW w' :=
  ⟨by have := h.1; have := hb.size; omega, fun i hi => (hb.cell (p := ⟨0, i, none⟩) hB).trans (h.2 i hi)⟩
theorem tabW_of {w : World} (h : ∀ i, i < ([0, 498536548, 997073096, 651767980, 1994146192, 1802195444, 1303535960, 1342533948, 3988292384, 4027552580, 3604390888, 3412177804, 2607071920, 2262029012, 2685067896, 3183342108] : List Int).length →
    w.cell? ⟨0, i, none⟩ = some (.int .u32 (([0, 498536548, 997073096, 651767980, 1994146192, 1802195444, 1303535960, 1342533948, 3988292384, 4027552580, 3604390888, 3412177804, 2607071920, 2262029012, 2685067896, 3183342108] : List Int).getD i 0))) : TabW w := by
  refine ⟨?_, fun i hi => ?_⟩
  · have := World.block_lt_of_cell? w _ (h 0 (by decide))
    omega
  · rw [h i hi]
    have e : ∀ i, i < 16 → ([0, 498536548, 997073096, 651767980, 1994146192, 1802195444, 1303535960, 1342533948, 3988292384, 4027552580, 3604390888, 3412177804, 2607071920, 2262029012, 2685067896, 3183342108] : List Int).getD i 0 = ((tab.getD i 0 : Nat) : Int) := by decide
    rw [e i hi]

theorem xor32 (a b : Nat) (ha : a < 4294967296) (hb : b < 4294967296) : bits .xor .u32 (a : Int) (b : Int) = ((a ^^^ b : Nat) : Int) := u32_xor_nat a b ha hb
theorem and15 (a : Nat) (ha : a < 4294967296) : bits .and .u32 (a : Int) 15 = ((a % 16 : Nat) : Int) := by
  have := u32_and_nat a 15 ha (by omega)
  rw [nat_mask4] at this
  exact this
theorem and1 (a : Nat) (ha : a < 4294967296) : bits .and .u32 (a : Int) 1 = ((a % 2 : Nat) : Int) := by
  have := u32_and_nat a 1 ha (by omega)
  rw [nat_mask1] at this
  exact this
theorem xorDiv (a k b : Nat) (ha : a < 4294967296) (hb : b < 4294967296) : bits .xor .u32 ((a : Int) / (k : Nat)) (b : Int) = ((a / k ^^^ b : Nat) : Int) := by
  rw [← xor32 _ _ (Nat.lt_of_le_of_lt (Nat.div_le_self a k) ha) hb]
  simp

set_option maxHeartbeats 400000 in
theorem feed_any (n c : Nat) (w : World) (hT : TabW w) (hn : n < 4294967296) (hc : c < 256) :
    Calls Tryd.prog 47 #[.int .u32 n, .int .u8 c] w fun e w' => e = .returned (.int .u32 (feed n c : Nat)) ∧ w = w' := by
  have hx : n ^^^ c < 4294967296 := xor_lt hn (by omega)
  have hy : stepN 4 (n ^^^ c) < 4294967296 := stepN_lt hx
  have e1 := xor32 n c hn (by omega)
  have e2 := and15 _ hx
  have c1 := hT.2 ((n ^^^ c) % 16) (by omega)
  have e3 : bits .xor .u32 (((n ^^^ c : Nat) : Int) / 16) ((tab.getD ((n ^^^ c) % 16) 0 : Nat) : Int) = (((n ^^^ c) / 16 ^^^ tab.getD ((n ^^^ c) % 16) 0 : Nat) : Int) := xorDiv (n ^^^ c) 16 _ hx (tab_lt ((n ^^^ c) % 16) (by omega))
  rw [nib] at e3
  have e4 := and15 _ hy
  have c2 := hT.2 (stepN 4 (n ^^^ c) % 16) (by omega)
  have e5 : bits .xor .u32 (((stepN 4 (n ^^^ c) : Nat) : Int) / 16) ((tab.getD (stepN 4 (n ^^^ c) % 16) 0 : Nat) : Int) = ((stepN 4 (n ^^^ c) / 16 ^^^ tab.getD (stepN 4 (n ^^^ c) % 16) 0 : Nat) : Int) := xorDiv (stepN 4 (n ^^^ c)) 16 _ hy (tab_lt (stepN 4 (n ^^^ c) % 16) (by omega))
  rw [nib2] at e5
  have hi : (n ^^^ c) % 16 < 16 := by omega
  have hj : stepN 4 (n ^^^ c) % 16 < 16 := by omega
  generalize feed n c = z at *
  generalize tab.getD (stepN 4 (n ^^^ c) % 16) 0 = s at *
  generalize stepN 4 (n ^^^ c) % 16 = j at *
  generalize stepN 4 (n ^^^ c) = y at *
  generalize tab.getD ((n ^^^ c) % 16) 0 = t at *
  generalize (n ^^^ c) % 16 = i at *
  generalize n ^^^ c = x at *
  clear hT
  go_enter Tryd.func47, Tryd.ntmps47
  go_wp2
  go_ret
  exact ⟨rfl, rfl⟩

theorem not32 (a : Nat) (ha : a < 4294967296) : bits .xor .u32 IntKind.u32.max (a : Int) = ((a ^^^ ones : Nat) : Int) := by
  have := xor32 4294967295 a (by omega) ha
  rw [Nat.xor_comm] at this
  exact this

set_option maxHeartbeats 400000 in
theorem Update_any (s : Nat) (A : Option Addr) (cap B : Nat) (bs : List Nat) (w : World) (hT : TabW w) (hs : s < 4294967296) (h : RB w B A bs) (hl : bs.length ≤ maxLen) :
    Calls Tryd.prog 41 #[.int .u32 s, .slice A bs.length cap] w fun e w' => e = .returned (.int .u32 (crcFrom s bs : Nat)) ∧ w = w' := by
  unfold maxLen at hl
  have hsg : IntKind.u32.signed = false := rfl
  have e0 := not32 s hs
  have hx : s ^^^ ones < 4294967296 := xor_lt hs (by decide)
  have hfin : Hid (∀ n, n = feeds (s ^^^ ones) bs → n ^^^ ones = crcFrom s bs) := Lib.hid fun n hn => by rw [hn]; rfl
  generalize s ^^^ ones = x at *
  go_enter Tryd.func41, Tryd.ntmps41
  go_wp2_with fail
  go_loop [5, 12] (fun n i => ∃ k m : Nat, k ≤ bs.length ∧ i = .int .i64 k ∧ m = feeds x (bs.take k) ∧ m < 4294967296 ∧ n = .int .u32 m) (fun _ i => bs.length - (intOf i).toNat)
  case atStart => exact ⟨0, x, Nat.zero_le _, rfl, rfl, hx, rfl⟩
  case round =>
    obtain ⟨k, m, hk, rfl, hm, hml, rfl⟩ := hrel
    have Hm := Lib.hid hm
    clear hm
    by_cases hlt : k < bs.length
    · have hc := h.1.nth k
      obtain ⟨b, off, rfl, _, hcell⟩ := h.at_ hlt
      go_wp2_with (go_at_call 47; refine (feed_any _ _ _ hT hml hc).mono ?_; rintro e w' ⟨rfl, rfl⟩)
      go_round
      case rel => exact ⟨k + 1, feed m (nth bs k), by omega, by go_num, by rw [take_succ_nth bs k hlt, feeds_snoc, Hm.out], feed_lt hml hc, rfl⟩
      case measure => simp [intOf]; omega
    · have e1 := not32 m hml
      have hf := hfin.out m (by rw [Hm.out, List.take_of_length_le (by omega)])
      rw [hf] at e1
      clear hf
      go_wp2
      go_ret
      exact ⟨rfl, rfl⟩

set_option maxHeartbeats 400000 in
theorem Sum_any (A : Option Addr) (cap B : Nat) (bs : List Nat) (w : World) (hT : TabW w) (h : RB w B A bs) (hl : bs.length ≤ maxLen) :
    Calls Tryd.prog 30 #[.slice A bs.length cap] w fun e w' => e = .returned (.int .u32 (crc bs : Nat)) ∧ w = w' := by
  have H := Lib.hid (Update_any 0 A cap B bs w hT (by omega) h hl)
  go_enter Tryd.func30, Tryd.ntmps30
  go_wp2_with fail
  refine (H.out).mono ?_
  rintro e w' ⟨rfl, rfl⟩
  go_wp2
  go_ret
  exact ⟨rfl, rfl⟩

theorem times_bit (a k : Nat) (hk : k < 32) (ha : a < 4294967296) : bits .and .u32 ((a * 2 ^ k % 4294967296 : Nat) : Int) 2147483648 = ((a / 2 ^ (31 - k) % 2 * 2147483648 : Nat) : Int) := by
  have h := u32_and_nat (a * 2 ^ k % 4294967296) 2147483648 (by omega) (by omega)
  rw [show (2147483648 : Nat) = 2 ^ 31 from rfl, nat_bit] at h
  refine Eq.trans h ?_
  congr 2
  have e1 : a * 2 ^ k % 2 ^ 32 / 2 ^ 31 = a * 2 ^ k / 2 ^ 31 % 2 := by
    rw [show (2 : Nat) ^ 32 = 2 ^ 31 * 2 from rfl, Nat.mod_mul_right_div_self]
  have e2 : a * 2 ^ k / 2 ^ 31 = a / 2 ^ (31 - k) := by
    rw [show (2 : Nat) ^ 31 = 2 ^ (31 - k) * 2 ^ k from by rw [← Nat.pow_add, show 31 - k + k = 31 from by omega], Nat.mul_comm a, Nat.mul_comm (2 ^ (31 - k)), Nat.mul_div_mul_left _ _ (Nat.two_pow_pos k)]
  rw [show (4294967296 : Nat) = 2 ^ 32 from rfl, e1, e2]
  omega

set_option maxHeartbeats 400000 in
theorem turned_any (v : Nat) (w : World) (hv : v < 4294967296) :
    Calls Tryd.prog 48 #[.int .u32 v] w fun e w' => e = .returned (.int .u32 (rev v : Nat)) ∧ w = w' := by
  go_enter Tryd.func48, Tryd.ntmps48
  go_wp2
  go_loop [0, 3, 4] (fun x o i => ∃ k z u : Nat, k ≤ 32 ∧ i = .int .i64 k ∧ z = v / 2 ^ k ∧ x = .int .u32 z ∧ u = outR k v ∧ o = .int .u32 u) (fun _ _ i => 32 - (intOf i).toNat)
  case atStart => exact ⟨0, v, 0, by omega, rfl, by simp, rfl, rfl, rfl⟩
  case round =>
    obtain ⟨k, z, u, hk, rfl, hz, rfl, hu, rfl⟩ := hrel
    by_cases hlt : k < 32
    · have hzl : z < 4294967296 := by rw [hz]; exact Nat.lt_of_le_of_lt (Nat.div_le_self _ _) hv
      have e1 := and1 z hzl
      have hul : u < 2147483648 := by
        rw [hu]
        exact Nat.lt_of_lt_of_le (outR_lt k v) (Nat.pow_le_pow_right (by omega) (by omega : k ≤ 31))
      have e2 : bits .or .u32 ((u : Int) * 2) ((z % 2 : Nat) : Int) = ((2 * u + z % 2 : Nat) : Int) := by
        have h1 := u32_or_nat (u * 2) (z % 2) (by omega) (by omega)
        rw [nat_join 1 (u * 2) (z % 2) (by omega) (by omega), Nat.mul_comm u 2] at h1
        rw [← h1]
        congr 1
        omega
      have hu2 : 2 * u + z % 2 = outR (k + 1) v := by rw [hu, hz]; rfl
      have hz2 : z / 2 = v / 2 ^ (k + 1) := by rw [hz, Nat.pow_succ, Nat.div_div_eq_div_mul]
      have HU := Lib.hid hu2
      have HZ := Lib.hid hz2
      have hb : z % 2 < 2 := by omega
      generalize z % 2 = bit at *
      clear hu2 hz2 hu hz
      go_wp2
      go_round
      case rel => exact ⟨k + 1, z / 2, 2 * u + bit, by omega, by go_num, HZ.out, int_eq (by omega), HU.out, int_eq (by omega)⟩
      case measure => simp [intOf]; omega
    · obtain rfl : k = 32 := by omega
      have Hu := Lib.hid hu
      clear hu hz
      go_wp2
      go_ret
      exact ⟨ret_int (by rw [Hu.out]; rfl), rfl⟩

theorem xorPol (a : Nat) : bits .xor .u32 ((a : Int) * 2 % 4294967296) 79764919 = ((2 * a % 4294967296 ^^^ pol : Nat) : Int) := by
  have h := xor32 (2 * a % 4294967296) 79764919 (by omega) (by omega)
  rw [show ((2 * a % 4294967296 : Nat) : Int) = (a : Int) * 2 % 4294967296 from by omega] at h
  exact h

/-! ### The document's division -/
set_option maxRecDepth 100000 in
set_option maxHeartbeats 1000000 in
theorem refUpdate_any (s : Nat) (A : Option Addr) (cap B : Nat) (bs : List Nat) (w : World) (hs : s < 4294967296) (h : RB w B A bs) (hl : bs.length ≤ maxLen) :
    Calls Tryd.prog 43 #[.int .u32 s, .slice A bs.length cap] w fun e w' => e = .returned (.int .u32 (crcFrom s bs : Nat)) ∧ w = w' := by
  unfold maxLen at hl
  have e0 : bits .xor .u32 (s : Int) 4294967295 = ((s ^^^ ones : Nat) : Int) := xor32 s 4294967295 hs (by omega)
  have hx : s ^^^ ones < 4294967296 := xor_lt hs (by decide)
  have hfin : Hid (∀ n, n = feeds (s ^^^ ones) bs → n ^^^ ones = crcFrom s bs) := Lib.hid fun n hn => by rw [hn]; rfl
  generalize s ^^^ ones = x at *
  go_enter Tryd.func43, Tryd.ntmps43
  go_wp2_with (go_at_call 48; refine (turned_any _ _ hx).mono ?_; rintro e w' ⟨rfl, rfl⟩)
  go_loop [5, 6] (fun r i => ∃ k m : Nat, k ≤ bs.length ∧ i = .int .i64 k ∧ rev m = feeds x (bs.take k) ∧ m < 4294967296 ∧ r = .int .u32 m) (fun _ i => bs.length - (intOf i).toNat)
  case atStart => exact ⟨0, rev x, Nat.zero_le _, rfl, rev_rev hx, rev_lt x, rfl⟩
  case round =>
    obtain ⟨k, m, hk, rfl, hm, hml, rfl⟩ := hrel
    have Hm := Lib.hid hm
    clear hm
    by_cases hlt : k < bs.length
    · have hc := h.1.nth k
      obtain ⟨b, off, rfl, _, hcell⟩ := h.at_ hlt
      have hst : rev m ^^^ nth bs k / 2 ^ 0 = stepN 0 (feeds x (bs.take k) ^^^ nth bs k) := by rw [Hm.out, Nat.pow_zero, Nat.div_one]; rfl
      have hend : Hid (∀ r, r < 4294967296 → rev r ^^^ nth bs k / 2 ^ 8 = stepN 8 (feeds x (bs.take k) ^^^ nth bs k) → rev r = feeds x (bs.take (k + 1))) := Lib.hid fun r _ hr => by
        rw [Nat.div_eq_of_lt (by omega), Nat.xor_zero] at hr
        rw [hr, take_succ_nth bs k hlt, feeds_snoc]; rfl
      have Hst := Lib.hid hst
      clear hst
      generalize nth bs k = c at *
      generalize feeds x (bs.take k) = f at *
      go_wp2
      go_loop [5, 7, 8, 9] (fun r j _ _ => ∃ i m : Nat, i ≤ 8 ∧ j = .int .i64 i ∧ rev m ^^^ c / 2 ^ i = stepN i (f ^^^ c) ∧ m < 4294967296 ∧ r = .int .u32 m) (fun _ j _ _ => 8 - (intOf j).toNat)
      case atStart => exact ⟨0, m, by omega, rfl, Hst.out, hml, rfl⟩
      case round =>
        obtain ⟨i, r, hi, rfl, hr, hrl, rfl⟩ := hrel
        by_cases hlt8 : i < 8
        · have hnext := bits_round hrl hr
          have hbl := refBit_lt r (c / 2 ^ i % 2)
          have hci : c / 2 ^ i < 256 := Nat.lt_of_le_of_lt (Nat.div_le_self _ _) hc
          have e1 : bits .and .u32 ((c : Int) / 2 ^ i % 4294967296) 1 = ((c / 2 ^ i % 2 : Nat) : Int) := by
            rw [show (c : Int) / 2 ^ i % 4294967296 = ((c / 2 ^ i : Nat) : Int) from by
              have : (c : Int) / 2 ^ i = ((c / 2 ^ i : Nat) : Int) := by simp
              rw [this]
              generalize c / 2 ^ i = q at hci
              omega]
            exact and1 _ (by omega)
          have hb2 : c / 2 ^ i % 2 < 2 := by omega
          have hrb : refBit r (c / 2 ^ i % 2) = if r / 2147483648 ≠ c / 2 ^ i % 2 then 2 * r % 4294967296 ^^^ pol else 2 * r % 4294967296 := rfl
          have Hn := Lib.hid hnext
          generalize refBit r (c / 2 ^ i % 2) = r2 at *
          generalize c / 2 ^ i % 2 = bit at *
          clear hnext hr hci
          by_cases hd : r / 2147483648 = bit
          · rw [if_neg (by omega)] at hrb
            have hdb : ((r : Int) / 2147483648 != (bit : Int)) = false := by
              rw [bne_eq_false_iff_eq]; omega
            have Hrb := Lib.hid hrb
            clear hd hrb
            go_wp2
            go_round
            case rel => exact ⟨i + 1, r2, by omega, by go_num, Hn.out, hbl, int_eq (by rw [Hrb.out]; omega)⟩
            case measure => simp [intOf]; omega
          · rw [if_pos hd] at hrb
            have hdb : ((r : Int) / 2147483648 != (bit : Int)) = true := by
              rw [bne_iff_ne]; omega
            have e2 := xorPol r
            rw [← hrb] at e2
            clear hd hrb
            go_wp2
            go_round
            case rel => exact ⟨i + 1, r2, by omega, by go_num, Hn.out, hbl, rfl⟩
            case measure => simp [intOf]; omega
        · obtain rfl : i = 8 := by omega
          have hf := hend.out r hrl hr
          have Hf := Lib.hid hf
          clear hf hr
          go_wp2
          go_round
          case rel => exact ⟨k + 1, r, by omega, by go_num, Hf.out, hrl, rfl⟩
          case measure => simp [intOf]; omega
    · have Hf := Lib.hid (hfin.out (rev m) (by rw [Hm.out, List.take_of_length_le (by omega)]))
      have e1 : bits .xor .u32 ((rev m : Nat) : Int) 4294967295 = ((rev m ^^^ ones : Nat) : Int) := xor32 _ 4294967295 (rev_lt m) (by omega)
      rw [Hf.out] at e1
      go_wp2_with (go_at_call 48; refine (turned_any _ _ hml).mono ?_; rintro e w' ⟨rfl, rfl⟩)
      go_ret
      exact ⟨rfl, rfl⟩

end Go.Proofs.YtkdlehekignnhaaDoor
