/- Contracts of the check sum's functions, second part: products, combining, sums of the law's own copies. -/
import Derived.Test.YtgigdflebjnihaaDoorCrc
import Derived.Test.YtgigdflebjnihaaDoorShelf
import Derived.Lib.ItoaNum
import Derived.Lib.SlBytesConst
namespace Go.Proofs.YtgigdflebjnihaaDoor
open Go.RowKit
set_option linter.unusedVariables false

theorem shrBit (p j : Nat) (hp : p < 4294967296) : bits .and .u32 ((p : Int) / 2 ^ j) 1 = ((p / 2 ^ j % 2 : Nat) : Int) := by
  rw [show (p : Int) / 2 ^ j = ((p / 2 ^ j : Nat) : Int) from by simp]
  exact and1 _ (Nat.lt_of_le_of_lt (Nat.div_le_self _ _) hp)
theorem rev_xor (a b : Nat) : rev (a ^^^ b) = rev a ^^^ rev b := rev_lin a b

set_option maxRecDepth 100000 in
set_option maxHeartbeats 1000000 in
theorem product_any (p q : Nat) (w : World) (hp : p < 4294967296) (hq : q < 4294967296) :
    Calls Tryd.prog 26 #[.int .u32 p, .int .u32 q] w fun e w' => e = .returned (.int .u32 (rev (mul (rev p) (rev q)) : Nat)) ∧ w = w' := by
  go_enter Tryd.func26, Tryd.ntmps26
  go_wp2
  go_loop [5, 6, 7] (fun o i _ => ∃ t r : Nat, t ≤ 32 ∧ i = .int .i64 ((t : Int) - 1) ∧ rev r = horner (rev q) (32 - t) p ∧ r < 4294967296 ∧ o = .int .u32 r) (fun _ i _ => (intOf i + 1).toNat)
  case atStart => exact ⟨32, 0, by omega, rfl, rfl, by omega, rfl⟩
  case round =>
    obtain ⟨t, r, ht, rfl, hr, hrl, rfl⟩ := hrel
    by_cases hlt : 0 < t
    · obtain ⟨j, rfl⟩ : ∃ j, t = j + 1 := ⟨t - 1, by omega⟩
      have hh : horner (rev q) (32 - j) p = step (rev r) ^^^ (if p / 2 ^ j % 2 = 1 then rev q else 0) := by
        rw [hr, show 32 - j = 32 - (j + 1) + 1 from by omega]
        show step (horner (rev q) (32 - (j + 1)) p) ^^^ (if p / 2 ^ (31 - (32 - (j + 1))) % 2 = 1 then rev q else 0) = _
        rw [show 31 - (32 - (j + 1)) = j from by omega]
      rw [← rev_step hrl] at hh
      have hsl := refStep_lt r
      have hrs : refStep r = if r / 2147483648 = 1 then 2 * r % 4294967296 ^^^ pol else 2 * r % 4294967296 := rfl
      have e1 := shrBit p j hp
      have e2 := xor32 (refStep r) q hsl hq
      have hx := xor_lt hsl hq
      have e3 := xorPol r
      generalize refStep r = s at *
      by_cases hb : p / 2 ^ j % 2 = 1
      · rw [if_pos hb, ← rev_xor] at hh
        rw [hb] at e1
        have e1 : bits .and .u32 ((p : Int) / 2 ^ j) 1 = 1 := e1
        have hb1 : ((1 : Int) == 1) = true := rfl
        have Hh := Lib.hid hh
        generalize s ^^^ q = r2 at *
        clear hh hb hr
        by_cases hd : r / 2147483648 = 1
        · rw [if_pos hd] at hrs
          rw [← hrs] at e3
          have hdb : ((r : Int) / 2147483648 == 1) = true := by rw [beq_iff_eq]; omega
          clear hd hrs
          go_wp2
          go_round
          case rel => exact ⟨j, r2, by omega, rfl, Hh.out.symm, hx, rfl⟩
          case measure => simp [intOf]
        · rw [if_neg hd] at hrs
          have hdb : ((r : Int) / 2147483648 == 1) = false := by rw [beq_eq_false_iff_ne]; omega
          have e4 : bits .xor .u32 ((r : Int) * 2 % 4294967296) (q : Int) = (r2 : Int) := by
            rw [← e2]; congr 1; omega
          clear hd hrs e2 e3
          go_wp2
          go_round
          case rel => exact ⟨j, r2, by omega, rfl, Hh.out.symm, hx, rfl⟩
          case measure => simp [intOf]
      · have hb0 : p / 2 ^ j % 2 = 0 := by omega
        rw [if_neg hb, Nat.xor_zero] at hh
        rw [hb0] at e1
        have e1 : bits .and .u32 ((p : Int) / 2 ^ j) 1 = 0 := e1
        have hb1 : ((0 : Int) == 1) = false := rfl
        have Hh := Lib.hid hh
        clear hh hb hr hb0 e2 hx
        by_cases hd : r / 2147483648 = 1
        · rw [if_pos hd] at hrs
          rw [← hrs] at e3
          have hdb : ((r : Int) / 2147483648 == 1) = true := by rw [beq_iff_eq]; omega
          clear hd hrs
          go_wp2
          go_round
          case rel => exact ⟨j, s, by omega, rfl, Hh.out.symm, hsl, rfl⟩
          case measure => simp [intOf]
        · rw [if_neg hd] at hrs
          have hdb : ((r : Int) / 2147483648 == 1) = false := by rw [beq_eq_false_iff_ne]; omega
          have Hrs := Lib.hid hrs
          clear hd hrs e3
          go_wp2
          go_round
          case rel => exact ⟨j, s, by omega, rfl, Hh.out.symm, hsl, int_eq (by rw [Hrs.out]; omega)⟩
          case measure => simp [intOf]
    · obtain rfl : t = 0 := by omega
      have hf : r = rev (mul (rev p) (rev q)) := by
        rw [← horner_mul p (rev q) hp, show (32 : Nat) = 32 - 0 from rfl, ← hr, rev_rev hrl]
      have Hf := Lib.hid hf
      clear hf hr
      go_wp2
      go_ret
      exact ⟨ret_int (by rw [Hf.out]), rfl⟩

theorem mul_lt' (a b : Nat) (hb : b < 4294967296) : mul a b < 4294967296 := mul_lt a b hb
theorem rev_mul {p q : Nat} : rev (rev (mul (rev p) (rev q))) = mul (rev p) (rev q) := rev_rev (mul_lt _ _ (rev_lt q))
theorem stepN_stepN (j k n : Nat) : stepN j (stepN k n) = stepN (j + k) n := (stepN_add j k n).symm
/-- what the document's Combine gives -/
def comb (a b : Nat) (n : Int) : Nat := stepN (8 * n.toNat) a ^^^ b

set_option maxRecDepth 100000 in
set_option maxHeartbeats 1000000 in
theorem refCombine_any (a b : Nat) (n : Int) (w : World) (ha : a < 4294967296) (hb : b < 4294967296) (h1 : -9223372036854775808 ≤ n) (h2 : n ≤ 9223372036854775807) :
    Calls Tryd.prog 17 #[.int .u32 a, .int .u32 b, .int .i64 n] w fun e w' => e = .returned (.int .u32 (comb a b n : Nat)) ∧ w = w' := by
  go_enter Tryd.func17, Tryd.ntmps17
  go_wp2_with (go_at_call 23; refine (turned_any _ _ ha).mono ?_; rintro e w' ⟨rfl, rfl⟩)
  go_loop [2, 7, 8] (fun i s p => ∃ (m : Int) (u v k : Nat), i = .int .i64 m ∧ m ≤ 9223372036854775807 ∧ -9223372036854775808 ≤ m ∧ rev u = stepN k one ∧ u < 4294967296 ∧ s = .int .u32 u ∧ v < 4294967296 ∧ p = .int .u32 v ∧ stepN (k * m.toNat) (rev v) = stepN (8 * n.toNat) a) (fun i _ _ => (intOf i).toNat)
  case atStart => exact ⟨n, 256, rev a, 8, rfl, h2, h1, by decide, by omega, rfl, rev_lt a, rfl, by rw [rev_rev ha]⟩
  case round =>
    obtain ⟨m, u, v, k, rfl, hm1, hm2, hu, hul, rfl, hvl, rfl, hst⟩ := hrel
    by_cases hpos : 0 < m
    · have hu2 : rev (rev (mul (rev u) (rev u))) = stepN (k + k) one := by rw [rev_mul, hu, square]
      have hu2l := rev_lt (mul (rev u) (rev u))
      by_cases hodd : m % 2 = 1
      · have hv2 : rev (rev (mul (rev v) (rev u))) = stepN k (rev v) := by rw [rev_mul, hu, mul_stepN _ _ (rev_lt v)]
        have hv2l := rev_lt (mul (rev v) (rev u))
        have hst2 : stepN ((k + k) * (m / 2).toNat) (rev (rev (mul (rev v) (rev u)))) = stepN (8 * n.toNat) a := by
          rw [hv2, stepN_stepN, ← hst]
          congr 1
          obtain ⟨j, hj⟩ : ∃ j : Nat, m = 2 * j + 1 := ⟨(m / 2).toNat, by omega⟩
          subst hj
          rw [show ((2 * (j : Int) + 1) / 2).toNat = j from by omega, show (2 * (j : Int) + 1).toNat = 2 * j + 1 from by omega, Nat.mul_add, Nat.add_mul, Nat.two_mul, Nat.mul_add]
          omega
        have hdb : (m % 2 == 1) = true := by rw [beq_iff_eq]; exact hodd
        have HU := Lib.hid hu2
        have HS := Lib.hid hst2
        have HP1 := Lib.hid (fun w => product_any v u w hvl hul)
        have HP2 := Lib.hid (fun w => product_any u u w hul hul)
        generalize rev (mul (rev v) (rev u)) = v2 at *
        generalize rev (mul (rev u) (rev u)) = u2 at *
        clear hu2 hst2 hst hodd hv2 hu
        have tok1 : True := trivial
        go_wp2_with (first | (have _t := tok1; go_at_call 26; refine (HP1.out _).mono ?_; rintro e w' ⟨rfl, rfl⟩; clear tok1) | (go_at_call 26; refine (HP2.out _).mono ?_; rintro e w' ⟨rfl, rfl⟩))
        go_round
        case rel => exact ⟨m / 2, u2, v2, k + k, rfl, by omega, by omega, HU.out, hu2l, rfl, hv2l, rfl, HS.out⟩
        case measure => simp [intOf]; omega
      · have hst2 : stepN ((k + k) * (m / 2).toNat) (rev v) = stepN (8 * n.toNat) a := by
          rw [← hst]
          congr 1
          obtain ⟨j, hj⟩ : ∃ j : Nat, m = 2 * j := ⟨(m / 2).toNat, by omega⟩
          subst hj
          rw [show ((2 * (j : Int)) / 2).toNat = j from by omega, show (2 * (j : Int)).toNat = 2 * j from by omega, Nat.add_mul, Nat.two_mul, Nat.mul_add]
        have hdb : (m % 2 == 1) = false := by rw [beq_eq_false_iff_ne]; exact hodd
        have HU := Lib.hid hu2
        have HS := Lib.hid hst2
        have HP2 := Lib.hid (fun w => product_any u u w hul hul)
        generalize rev (mul (rev u) (rev u)) = u2 at *
        clear hu2 hst2 hst hodd hu
        go_wp2_with (go_at_call 26; refine (HP2.out _).mono ?_; rintro e w' ⟨rfl, rfl⟩)
        go_round
        case rel => exact ⟨m / 2, u2, v, k + k, rfl, by omega, by omega, HU.out, hu2l, rfl, hvl, rfl, HS.out⟩
        case measure => simp [intOf]; omega
    · have hf : rev v ^^^ b = comb a b n := by
        rw [show m.toNat = 0 from by omega, Nat.mul_zero] at hst
        unfold comb
        rw [← hst]; rfl
      have e1 := xor32 (rev v) b (rev_lt v) hb
      rw [hf] at e1
      clear hf hst hu
      go_wp2_with (go_at_call 23; refine (turned_any _ _ hvl).mono ?_; rintro e w' ⟨rfl, rfl⟩)
      go_ret
      exact ⟨rfl, rfl⟩

theorem drop_nth2 (bs : List Nat) (k : Nat) (h : k < bs.length) : bs.drop k = nth bs k :: bs.drop (k + 1) := by
  rw [List.drop_eq_getElem_cons h, nth_lt h]

/-! ### The program's own -/
theorem bitLen_bounds (n : Nat) (h : n < 18446744073709551616) : n / 2 ^ (Lib.bitLen n) = 0 ∧ Lib.bitLen n ≤ 64 := by
  rcases Nat.eq_zero_or_pos n with rfl | h0
  · exact ⟨by simp, by decide⟩
  · have h1 := Lib.bitLenAux_bounds 64 n h (by omega)
    refine ⟨Nat.div_eq_of_lt h1.2.2, ?_⟩
    have h2 : 2 ^ (Lib.bitLenAux 64 n - 1) < 2 ^ 64 := Nat.lt_of_le_of_lt h1.2.1 h
    have h3 : Lib.bitLenAux 64 n - 1 < 64 := by
      rcases Nat.lt_or_ge (Lib.bitLenAux 64 n - 1) 64 with h | h
      · exact h
      · exact absurd (Nat.pow_le_pow_right (by omega : 0 < 2) h) (by omega)
    show Lib.bitLenAux 64 n ≤ 64
    omega

theorem and1_64 (a : Nat) (ha : a < 18446744073709551616) : bits .and .u64 (a : Int) 1 = ((a % 2 : Nat) : Int) := by
  have := u64_and_nat a 1 ha (by omega)
  rw [nat_mask1] at this
  exact this
theorem shrBit64 (p j : Nat) (hp : p < 18446744073709551616) : bits .and .u64 ((p : Int) / 2 ^ j) 1 = ((p / 2 ^ j % 2 : Nat) : Int) := by
  rw [show (p : Int) / 2 ^ j = ((p / 2 ^ j : Nat) : Int) from by simp]
  exact and1_64 _ (Nat.lt_of_le_of_lt (Nat.div_le_self _ _) hp)
theorem half_pow (n j : Nat) : n / 2 ^ j = 2 * (n / 2 ^ (j + 1)) + n / 2 ^ j % 2 := by
  rw [Nat.pow_succ, ← Nat.div_div_eq_div_mul]; omega

set_option maxRecDepth 100000 in
set_option maxHeartbeats 1000000 in
theorem zeros_any (n : Nat) (w : World) (hT : TabW w) (hn : n < 18446744073709551616) :
    Calls Tryd.prog 25 #[.int .u64 n] w fun e w' => e = .returned (.int .u32 (stepN (8 * n) one : Nat)) ∧ w = w' := by
  have hbl := bitLen_bounds n hn
  have HL := Lib.hid (Tryd.bits_Len (n : Int) w (by omega) (by omega))
  rw [Int.toNat_natCast] at HL
  generalize Lib.bitLen n = L at *
  obtain ⟨hL0, hL⟩ := hbl
  go_enter Tryd.func25, Tryd.ntmps25
  go_wp2_with (go_at_call 28; refine (HL.out).mono ?_; rintro e w' ⟨rfl, hw'⟩; subst hw')
  go_loop [3, 4] (fun p i => ∃ t r : Nat, t ≤ 64 ∧ i = .int .i64 ((t : Int) - 1) ∧ r = stepN (8 * (n / 2 ^ t)) one ∧ r < 4294967296 ∧ p = .int .u32 r) (fun _ i => (intOf i + 1).toNat)
  case atStart => exact ⟨L, 2147483648, hL, rfl, by rw [hL0]; rfl, by omega, rfl⟩
  case round =>
    obtain ⟨t, r, ht, rfl, hr, hrl, rfl⟩ := hrel
    by_cases hlt : 0 < t
    · obtain ⟨j, rfl⟩ : ∃ j, t = j + 1 := ⟨t - 1, by omega⟩
      have hsq : mul r r = stepN (8 * (n / 2 ^ (j + 1)) + 8 * (n / 2 ^ (j + 1))) one := by rw [hr, square]
      have hml := mul_lt r r hrl
      have e1 := shrBit64 n j hn
      have hh := half_pow n j
      have hbit : n / 2 ^ j % 2 = 0 ∨ n / 2 ^ j % 2 = 1 := by omega
      have HT := Lib.hid (times_any r r · hrl hrl)
      generalize mul r r = q at *
      have hfd : feed q 0 = stepN 8 q := by unfold feed; rw [Nat.xor_zero]
      have hfl := feed_lt (c := 0) hml (by omega)
      have HF := Lib.hid (feed_any q 0 · · hml (by omega))
      generalize feed q 0 = f at *
      rcases hbit with hb | hb
      · have hq : q = stepN (8 * (n / 2 ^ j)) one := by rw [hsq, hh, hb]; congr 1; omega
        rw [hb] at e1
        have e1 : bits .and .u64 ((n : Int) / 2 ^ j) 1 = 0 := e1
        have hb1 : ((0 : Int) == 1) = false := rfl
        have Hq := Lib.hid hq
        clear hq hb hh hsq hr hfd hL0
        go_wp2_with (first | (go_at_call 24; refine (HT.out _).mono ?_; rintro e w' ⟨rfl, rfl⟩))
        go_round
        case rel => exact ⟨j, q, by omega, rfl, Hq.out, hml, rfl⟩
        case measure => simp [intOf]
      · have hq : f = stepN (8 * (n / 2 ^ j)) one := by rw [hfd, hsq, stepN_stepN, hh, hb]; congr 1; omega
        rw [hb] at e1
        have e1 : bits .and .u64 ((n : Int) / 2 ^ j) 1 = 1 := e1
        have hb1 : ((1 : Int) == 1) = true := rfl
        have Hq := Lib.hid hq
        clear hq hb hh hsq hr hfd hL0
        go_wp2_with (first | (go_at_call 24; refine (HT.out _).mono ?_; rintro e w' ⟨rfl, rfl⟩) | (go_at_call 22; refine (HF.out _ hT).mono ?_; rintro e w' ⟨rfl, rfl⟩))
        go_round
        case rel => exact ⟨j, f, by omega, rfl, Hq.out, hfl, rfl⟩
        case measure => simp [intOf]
    · obtain rfl : t = 0 := by omega
      rw [Nat.pow_zero, Nat.div_one] at hr
      have Hr := Lib.hid hr
      clear hr hL0
      go_wp2
      go_ret
      exact ⟨ret_int (by rw [Hr.out]), rfl⟩

set_option maxHeartbeats 1000000 in
theorem Combine_any (a b : Nat) (n : Int) (w : World) (hT : TabW w) (ha : a < 4294967296) (hb : b < 4294967296) (h1 : -9223372036854775808 ≤ n) (h2 : n ≤ 9223372036854775807) :
    Calls Tryd.prog 16 #[.int .u32 a, .int .u32 b, .int .i64 n] w fun e w' => e = .returned (.int .u32 (comb a b n : Nat)) ∧ w = w' := by
  have hm := mul_stepN a (8 * n.toNat) ha
  have hml : stepN (8 * n.toNat) one < 4294967296 := stepN_lt (by decide)
  have HZ := Lib.hid (zeros_any n.toNat w hT (by omega))
  have HT := Lib.hid (times_any a (stepN (8 * n.toNat) one) w ha hml)
  rw [hm] at HT
  have e1 := xor32 (stepN (8 * n.toNat) a) b (stepN_lt ha) hb
  have hc : stepN (8 * n.toNat) a ^^^ b = comb a b n := rfl
  rw [hc] at e1
  clear hm hc
  generalize comb a b n = c at *
  generalize stepN (8 * n.toNat) a = x at *
  generalize stepN (8 * n.toNat) one = z at *
  by_cases hn : 0 ≤ n
  · obtain ⟨m, rfl⟩ := Int.eq_ofNat_of_zero_le hn
    rw [Int.toNat_natCast] at HZ
    go_enter Tryd.func16, Tryd.ntmps16
    go_wp2_with (first | (go_at_call 25; refine (HZ.out).mono ?_; rintro e w' ⟨rfl, rfl⟩) | (go_at_call 24; refine (HT.out).mono ?_; rintro e w' ⟨rfl, rfl⟩))
    go_ret
    exact ⟨rfl, rfl⟩
  · rw [show n.toNat = 0 from by omega] at HZ
    have hmx : max n 0 = 0 := by omega
    have HZ : Hid (Calls Tryd.prog 25 #[.int .u64 0] w fun e w' => e = .returned (.int .u32 z) ∧ w = w') := HZ
    go_enter Tryd.func16, Tryd.ntmps16
    go_wp2_with (first | (go_at_call 25; refine (HZ.out).mono ?_; rintro e w' ⟨rfl, rfl⟩) | (go_at_call 24; refine (HT.out).mono ?_; rintro e w' ⟨rfl, rfl⟩))
    go_ret
    exact ⟨rfl, rfl⟩

set_option maxHeartbeats 400000 in
theorem refSum_any (A : Option Addr) (cap B : Nat) (bs : List Nat) (w : World) (h : RB w B A bs) (hl : bs.length ≤ maxLen) :
    Calls Tryd.prog 13 #[.slice A bs.length cap] w fun e w' => e = .returned (.int .u32 (crc bs : Nat)) ∧ w = w' := by
  have H := Lib.hid (refUpdate_any 0 A cap B bs w (by omega) h hl)
  go_enter Tryd.func13, Tryd.ntmps13
  go_wp2_with fail
  refine (H.out).mono ?_
  rintro e w' ⟨rfl, rfl⟩
  go_wp2
  go_ret
  exact ⟨rfl, rfl⟩

theorem u8_info : (Tryd.prog.info? 5).map (fun i => (i.zero, i.size, i.bytes)) = some (some (.int .u8 0), 1, 1) := by kernel_rfl
/-- what clone answers: a row of its own -/
def NewB (bs : List Nat) (w : World) (e : Ending) (w' : World) : Prop := ∃ v, e = .returned v ∧ OB w' w.heap.size 5 v bs ∧ Below w.heap.size w w'
set_option maxHeartbeats 400000 in
theorem clone_any (A : Option Addr) (cap B : Nat) (bs : List Nat) (w : World) (h : RB w B A bs) (hB : B ≤ w.heap.size) (hl : bs.length ≤ 140737488355328) :
    Calls Tryd.prog 12 #[.slice A bs.length cap] w (NewB bs w) := by
  obtain ⟨i0, hi, hz0, hz1, hz2⟩ := info_parts u8_info
  go_enter Tryd.func12, Tryd.ntmps12
  go_wp2_with (at_builtin; refine wpList_append_bytes _ rfl _ _ 22 rfl w.heap.size 5 i0 Tryd.underlying22 hi hz0 hz1 hz2 (.slice (some ⟨w.heap.size, 0, none⟩) 0 0) [] (by rfl) ⟨IsBytes.nil, World.ownsRow_lit w #[] 0 (Nat.le_refl _) (Nat.zero_le _) rfl⟩ A cap B bs bs.length rfl (by rfl) (h.alloc hB _) (by simpa using hl) (by simp) ?_; intro v1 w1 hown1 hg1 hat1)
  have hb1 : Below w.heap.size w w1 := below_own (((Below.refl _ _).alloc (Nat.le_refl _) _)) (World.ownsRow_lit (base := w.heap.size) (size := 1) w #[] 0 (Nat.le_refl _) (Nat.zero_le _) rfl) (Nat.le_refl _) hg1 (by simp)
  go_ret
  exact ⟨_, rfl, by simpa using hown1, hb1⟩

theorem RB.mark {bs : List Nat} (w : World) (e : TypeId) (fr : Nat × Nat) (hb : IsBytes bs) (cs : Array Value) (hcs : cs.toList = cells8 bs) : RB (w.alloc (.cells cs e fr)) (w.heap.size + 1) (some ⟨w.heap.size, 0, none⟩) bs := by
  refine ⟨hb, by simp [cells8], fun _ => ⟨_, rfl, Nat.lt_succ_self _, fun j u hj => ?_⟩⟩
  rw [add_none, Nat.zero_add, World.cell?_alloc_mark, ← Array.getElem?_toList, hcs]
  exact hj
theorem sp_nine (w : World) (hT : TabW w) : Calls Tryd.prog 11 #[.slice (some ⟨w.heap.size, 0, none⟩) 9 9] (w.alloc (.cells #[.int .u8 49, .int .u8 50, .int .u8 51, .int .u8 52, .int .u8 53, .int .u8 54, .int .u8 55, .int .u8 56, .int .u8 57] 5 (9, 10)))
    fun e w' => e = .returned (.int .u32 3421780262) ∧ w.alloc (.cells #[.int .u8 49, .int .u8 50, .int .u8 51, .int .u8 52, .int .u8 53, .int .u8 54, .int .u8 55, .int .u8 56, .int .u8 57] 5 (9, 10)) = w' := by
  have h := Sum_any (some ⟨w.heap.size, 0, none⟩) 9 (w.heap.size + 1) [49, 50, 51, 52, 53, 54, 55, 56, 57] _ (hT.below ((Below.refl w.heap.size w).alloc (Nat.le_refl _) (.cells #[.int .u8 49, .int .u8 50, .int .u8 51, .int .u8 52, .int .u8 53, .int .u8 54, .int .u8 55, .int .u8 56, .int .u8 57] 5 (9, 10))) hT.1)
    (RB.mark w 5 (9, 10) (by unfold IsBytes; decide) _ rfl) (by decide)
  rw [show crc [49, 50, 51, 52, 53, 54, 55, 56, 57] = 3421780262 from by decide +kernel] at h
  exact h
theorem sp_zero (w : World) (H : Nat) (hH : w.heap.size = H) (hT : TabW w) : Calls Tryd.prog 11 #[.slice (some ⟨H, 0, none⟩) 1 1] (w.alloc (.cells #[.int .u8 0] 5))
    fun e w' => e = .returned (.int .u32 3523407757) ∧ w.alloc (.cells #[.int .u8 0] 5) = w' := by
  subst hH
  have h := Sum_any (some ⟨w.heap.size, 0, none⟩) 1 (w.heap.size + 1) [0] _ (hT.below ((Below.refl w.heap.size w).alloc (Nat.le_refl _) (.cells #[.int .u8 0] 5)) hT.1) (RB.lit w 5 (by unfold IsBytes; decide) _ rfl) (by decide)
  rw [show crc [0] = 3523407757 from by decide +kernel] at h
  exact h

set_option maxRecDepth 100000 in
set_option maxHeartbeats 400000 in
theorem speaks_any (w : World) (hT : TabW w) : Calls Tryd.prog 10 #[] w fun e w' => e = .returned (.bool true) ∧ Below w.heap.size w w' := by
  have kc := fun (w : World) (C : Array Value) (n c : Nat) => Lib.run_convert_bytes_const (P := Tryd.prog) w 22 5 C n c Tryd.underlying22 Tryd.underlying5
  go_enter Tryd.func10, Tryd.ntmps10
  go_wp2_with fail
  refine (sp_nine w hT).mono ?_
  rintro e w1 ⟨rfl, hw1⟩
  have hb1 : Below w.heap.size w w1 := by rw [← hw1]; exact (Below.refl _ _).alloc (Nat.le_refl _) _
  have hT1 := hT.below hb1 hT.1
  clear hw1
  go_wp2_with fail
  refine (sp_zero w1 _ rfl hT1).mono ?_
  rintro e w2 ⟨rfl, hw2⟩
  have hb2 : Below w.heap.size w w2 := by rw [← hw2]; exact hb1.alloc hb1.size _
  clear hw2
  go_wp2_with fail
  go_ret
  exact ⟨rfl, hb2⟩

end Go.Proofs.YtgigdflebjnihaaDoor
