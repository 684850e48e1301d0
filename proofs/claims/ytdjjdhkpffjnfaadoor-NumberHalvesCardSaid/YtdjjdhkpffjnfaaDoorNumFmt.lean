/- Layer 5: what is written. -/
import Derived.Test.YtdjjdhkpffjnfaaDoorNumHex
import Derived.Test.YtdjjdhkpffjnfaaDoorShelf
import Derived.Lib.SmallJoins
import Derived.Lib.AppendIntMem
import Derived.Lib.AtoiErrMem
namespace Go.Proofs.YtdjjdhkpffjnfaaDoor
open Go.RowKit
set_option linter.unusedVariables false

theorem gnPow : Tryd.prog.globalNamed "internal/strconv.uint64pow10" = some 0 := by kernel_rfl
theorem gnEs : Tryd.prog.globalNamed "strconv.ErrSyntax" = some 1 := by kernel_rfl
theorem gnEr : Tryd.prog.globalNamed "strconv.ErrRange" = some 2 := by kernel_rfl
/-- the library's tables and errors stand as they were laid -/
structure Tabs (w : World) : Prop where
  pow : Lib.TabIs Tryd.prog w "internal/strconv.uint64pow10" .u64 Lib.pow10Tab
  de : w.cell? ⟨5, 15, none⟩ = some (.int .u8 4)
  es : ∃ tp p, w.var? Tryd.prog "strconv.ErrSyntax" = some #[.iface tp p]
  er : ∃ tp p, w.var? Tryd.prog "strconv.ErrRange" = some #[.iface tp p]
theorem Tabs.below {w w' : World} {B : Nat} (h : Tabs w) (hb : Below B w w') (hB : w.heap.size ≤ B) : Tabs w' where
  pow := Joins.var_stays gnPow h.pow hb hB
  de := (hb.cell (p := ⟨5, 15, none⟩) (Nat.lt_of_lt_of_le (lt_of_cell h.de) hB)).trans h.de
  es := by obtain ⟨tp, p, e⟩ := h.es; exact ⟨tp, p, Joins.var_stays gnEs e hb hB⟩
  er := by obtain ⟨tp, p, e⟩ := h.er; exact ⟨tp, p, Joins.var_stays gnEr e hb hB⟩

theorem of_grow {w w' : World} (h : ∃ k os, w' = Sort.grow (w.drewN k) os) : Below w.heap.size w w' := by
  obtain ⟨k, os, rfl⟩ := h
  exact Lib.below_grow _ w (Nat.le_refl _) k os

set_option maxHeartbeats 400000 in
theorem FormatInt_any (n : Int) (w : World) (hT : Tabs w) (h0 : -9223372036854775808 ≤ n) (h1 : n ≤ 9223372036854775807) :
    Calls Tryd.prog 13 #[.int .i64 n] w fun e w' => e = .returned (.string ⟨(Lib.itoa n).toArray⟩) ∧ Below w.heap.size w w' := by
  have H := Lib.hid hT
  clear hT
  go_enter Tryd.func13, Tryd.ntmps13
  go_wp2_with fail
  refine (Tryd.strconv_FormatInt_10 n h0 h1 _ H.out.pow).mono ?_
  rintro e w1 ⟨rfl, hb⟩
  have hb := of_grow hb
  go_wp2
  go_ret
  exact ⟨rfl, hb⟩

theorem bitLen_log {m : Nat} (h0 : 0 < m) (h : m < 18446744073709551616) : Lib.bitLen m = m.log2 + 1 := by
  obtain ⟨a, b, c⟩ := Lib.bitLenAux_bounds 64 m (by simpa using h) (by omega)
  unfold Lib.bitLen
  have h1 := (Nat.le_log2 (by omega)).2 b
  have h2 := (Nat.log2_lt (by omega)).2 c
  omega

theorem and52 {m d : Nat} (h : m * 2 ^ d < 9007199254740992) : bits .and .u64 (IntKind.u64.wrap ((m : Int) * 2 ^ d)) 4503599627370495 = ((m * 2 ^ d % 4503599627370496 : Nat) : Int) := by
  have e : ((m : Int) * 2 ^ d) = ((m * 2 ^ d : Nat) : Int) := by rw [Int.natCast_mul, Int.natCast_pow]; rfl
  rw [e]
  generalize m * 2 ^ d = x at h ⊢
  have e2 : IntKind.u64.wrap (x : Int) = (x : Int) := by
    simp only [IntKind.wrap, IntKind.bits, IntKind.signed]
    simp
    omega
  rw [e2]
  have := u64_and_nat x 4503599627370495 (by omega) (by omega)
  rw [show x &&& 4503599627370495 = x % 4503599627370496 from Nat.and_two_pow_sub_one_eq_mod x 52] at this
  exact this
set_option maxRecDepth 100000 in
set_option maxHeartbeats 400000 in
theorem split_low (m : Nat) (w : World) (h0 : 0 < m) (h : m < 4503599627370496) :
    Calls Tryd.prog 36 #[.int .u64 m] w fun e w' => e = .returned (.tuple #[.int .i64 (expoF m), .int .u64 (fracF m)]) ∧ w = w' := by
  have hL := (log2_bd h0 h).1
  have hB := bitLen_log h0 (show m < 18446744073709551616 by omega)
  have hB2 : Lib.bitLen 4503599627370496 = 53 := by decide +kernel
  have C1 : Calls Tryd.prog 54 #[.int .u64 m] w fun e w' => e = .returned (.int .i64 (63 - (m.log2 : Int))) ∧ w = w' :=
    (Tryd.bits_LeadingZeros64 m w (by omega) (by omega)).mono fun e w' ⟨he, hw⟩ => ⟨by rw [he, Int.toNat_natCast, hB]; exact ret_int' (by omega), hw.symm⟩
  have C2 : Calls Tryd.prog 54 #[.int .u64 4503599627370496] w fun e w' => e = .returned (.int .i64 11) ∧ w = w' :=
    (Tryd.bits_LeadingZeros64 4503599627370496 w (by omega) (by omega)).mono fun e w' ⟨he, hw⟩ => ⟨by rw [he]; exact ret_int' (by rw [show Int.toNat 4503599627370496 = 4503599627370496 by rfl, hB2]; omega), hw.symm⟩
  obtain ⟨d, hd⟩ : ∃ d : Nat, d = 52 - m.log2 := ⟨_, rfl⟩
  have hs := (sub_norm h0 h).2
  rw [← hd] at hs
  have H1 : Hid (expoF m = -1022 - (d : Int)) := Lib.hid (by unfold expoF; rw [if_pos h]; omega)
  have H2 : Hid (fracF m = m * 2 ^ d % 4503599627370496) := Lib.hid (by unfold fracF; rw [if_pos h, hd])
  rw [show 63 - (m.log2 : Int) = 11 + (d : Int) by omega] at C1
  have hd1 : 1 ≤ d := by omega
  have hd2 : d ≤ 52 := by omega
  have HS := Lib.hid hs
  have hi0 : (0 : Int) < (m : Int) := by omega
  have hi1 : (m : Int) < 4503599627370496 := by omega
  clear hd hL hB hB2 hs h h0
  have HC1 := Lib.hid C1
  have HC2 := Lib.hid C2
  clear C1 C2
  go_enter Tryd.func36, Tryd.ntmps36
  go_wp2_with fail
  refine HC1.out.mono ?_
  rintro e w' ⟨rfl, rfl⟩
  go_wp2_with fail
  refine HC2.out.mono ?_
  rintro e w' ⟨rfl, rfl⟩
  go_upto_region 5 with fail
  rw [show (11 : Int) + (d : Int) - 11 = d by omega]
  go_wp2
  go_ret2
  exact ⟨ret_two (int_eq H1.out.symm) (int_eq (by rw [H2.out]; exact and52 HS.out)), rfl⟩

set_option maxRecDepth 100000 in
set_option maxHeartbeats 400000 in
theorem split_high (m : Nat) (w : World) (h0 : (4503599627370496 : Int) ≤ (m : Int)) (h : (m : Int) < 9218868437227405312) :
    Calls Tryd.prog 36 #[.int .u64 m] w fun e w' => e = .returned (.tuple #[.int .i64 (expoF m), .int .u64 (fracF m)]) ∧ w = w' := by
  have H0 : (m : Int) ≤ 9223372036854775807 := by omega
  have H1 : Hid (expoF m = (m : Int) / 4503599627370496 - 1023) := Lib.hid (by unfold expoF; rw [if_neg (by omega)]; omega)
  have H2 : Hid (bits .and .u64 (m : Int) 4503599627370495 = ((fracF m : Nat) : Int)) := Lib.hid (by
    rw [show fracF m = m % 4503599627370496 by unfold fracF; rw [if_neg (by omega)]]
    have := u64_and_nat m 4503599627370495 (by omega) (by omega)
    rw [show m &&& 4503599627370495 = m % 4503599627370496 from Nat.and_two_pow_sub_one_eq_mod m 52] at this
    exact this)
  generalize (m : Int) = x at *
  go_enter Tryd.func36, Tryd.ntmps36
  go_wp2
  go_ret2
  exact ⟨ret_two (int_eq H1.out.symm) (int_eq H2.out), rfl⟩

theorem split_any (m : Nat) (w : World) (h0 : 0 < m) (h : m < 9218868437227405312) :
    Calls Tryd.prog 36 #[.int .u64 m] w fun e w' => e = .returned (.tuple #[.int .i64 (expoF m), .int .u64 (fracF m)]) ∧ w = w' := by
  by_cases h1 : m < 4503599627370496
  · exact split_low m w h0 h1
  · exact split_high m w (by omega) (by omega)

theorem trimRight_strip (l : List UInt8) : Lib.trimRightB l 48 = strip0 l := by
  unfold Lib.trimRightB strip0
  congr 2
  funext c
  rw [Bool.eq_iff_iff, beq_iff_eq, beq_iff_eq, ← UInt8.toNat_inj]
  rfl

theorem hexN_add : ∀ (p n k : Nat), hexN (n + k * 16 ^ p) p = hexN n p
  | 0, _, _ => rfl
  | p + 1, n, k => by
    have e1 : (n + k * 16 ^ (p + 1)) % 16 = n % 16 := by rw [Nat.pow_succ, ← Nat.mul_assoc]; omega
    have e2 : (n + k * 16 ^ (p + 1)) / 16 = n / 16 + k * 16 ^ p := by rw [Nat.pow_succ, ← Nat.mul_assoc]; omega
    rw [hexN, hexN, e1, e2, hexN_add p]
theorem hex_lead {f : Nat} (h : f < 4503599627370496) : hexN (4503599627370496 + f) 14 = 49 :: hexN f 13 := by
  rw [hexN_front 13]
  have e := hexN_add 13 f 1
  rw [show (4503599627370496 + f) / 16 ^ 13 % 16 = 1 by omega, Nat.add_comm, show f + 4503599627370496 = f + 1 * 16 ^ 13 by omega, e]
  rfl
theorem ext_tail (c : UInt8) (l : List UInt8) : (⟨(c :: l).toArray⟩ : ByteArray).extract 1 (l.length + 1) = ⟨l.toArray⟩ := by
  have h := Lib.extract_data ⟨(c :: l).toArray⟩ 1 (l.length + 1)
  generalize (⟨(c :: l).toArray⟩ : ByteArray).extract 1 (l.length + 1) = s at h
  obtain ⟨⟨m⟩⟩ := s
  simp only [List.drop_succ_cons, List.drop_zero, Nat.add_sub_cancel, List.take_length] at h
  rw [h]
theorem app_str (a b : List UInt8) : (⟨a.toArray⟩ : ByteArray) ++ ⟨b.toArray⟩ = ⟨(a ++ b).toArray⟩ := by
  rw [ByteArray.mk_append_mk]

theorem fracT_zero : fracT 0 = [] := rfl
theorem fracT_pos {f : Nat} (h : f ≠ 0) : fracT f = 46 :: strip0 (hexN f 13) := by unfold fracT; rw [if_neg h]
set_option maxRecDepth 100000 in
set_option maxHeartbeats 400000 in
theorem fraction_zero (w : World) :
    Calls Tryd.prog 37 #[.int .u64 0] w fun e w' => e = .returned (.string ⟨(fracT 0).toArray⟩) ∧ Below w.heap.size w w' := by
  go_enter Tryd.func37, Tryd.ntmps37
  go_wp2
  go_ret
  exact ⟨rfl, Below.refl _ _⟩
set_option maxRecDepth 100000 in
set_option maxHeartbeats 400000 in
theorem fraction_pos (f : Nat) (w : World) (hT : Tabs w) (h0 : (0 : Int) < (f : Int)) (h : (f : Int) < 4503599627370496) :
    Calls Tryd.prog 37 #[.int .u64 f] w fun e w' => e = .returned (.string ⟨(fracT f).toArray⟩) ∧ Below w.heap.size w w' := by
  have e1 := or_one (f := f) (by omega)
  have e2 : ((f : Int) == 0) = false := by rw [beq_eq_false_iff_ne]; omega
  have HC := Lib.hid (formatUint16 (4503599627370496 + f) (by omega) (by omega) w hT.de)
  have HF := Lib.hid (fracT_pos (f := f) (by omega))
  have HX : Hid (hexN (4503599627370496 + f) 14 = 49 :: hexN f 13) := Lib.hid (hex_lead (by omega))
  obtain ⟨U, hU⟩ : ∃ U, U = 4503599627370496 + f := ⟨_, rfl⟩
  rw [← hU] at e1 HC HX
  clear hU hT
  go_enter Tryd.func37, Tryd.ntmps37
  go_wp2_with fail
  refine HC.out.mono ?_
  rintro e w1 ⟨rfl, hb⟩
  rw [HX.out]
  go_wp2_with fail
  rw [ext_tail]
  have HTR : Calls Tryd.prog 56 #[.string ⟨(hexN f 13).toArray⟩, .string ⟨#[48]⟩] w1 fun e w' => e = .returned (.string ⟨(strip0 (hexN f 13)).toArray⟩) ∧ w1 = w' :=
    (Tryd.strings_TrimRight_one ⟨(hexN f 13).toArray⟩ 48 (by decide) w1 (by rw [show ByteArray.size ⟨(hexN f 13).toArray⟩ = (hexN f 13).length by simp [ByteArray.size], hexN_len]; omega)).mono
      fun e w' ⟨he, hw⟩ => ⟨by rw [he, ← trimRight_strip], hw.symm⟩
  obtain ⟨L, hL⟩ : ∃ L, L = strip0 (hexN f 13) := ⟨_, rfl⟩
  rw [← hL] at HTR
  have HL := Lib.hid hL
  clear hL
  refine HTR.mono ?_
  rintro e w2 ⟨rfl, rfl⟩
  clear HTR
  obtain ⟨S, hS⟩ : ∃ S : ByteArray, S = ⟨L.toArray⟩ := ⟨_, rfl⟩
  rw [← hS]
  have HS := Lib.hid hS
  have hS1 : S.size ≤ 13 := by rw [hS]; show L.toArray.size ≤ 13; rw [List.size_toArray, HL.out]; have := strip0_le (hexN f 13); rw [hexN_len] at this; exact this
  clear hS e1 e2 h h0
  go_wp2
  go_ret
  refine ⟨ret_str' ?_, hb⟩
  rw [HF.out, HS.out, HL.out]
  exact app_str [46] _
end Go.Proofs.YtdjjdhkpffjnfaaDoor
