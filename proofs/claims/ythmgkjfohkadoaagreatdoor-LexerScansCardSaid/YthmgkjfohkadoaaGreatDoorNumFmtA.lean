/- Layer 5: what is written. -/
import Derived.Test.YthmgkjfohkadoaaGreatDoorNumHex
import Derived.Test.YthmgkjfohkadoaaGreatDoorShelf
import Derived.Lib.SmallJoins
import Derived.Lib.AppendIntMem
import Derived.Lib.AtoiErrMem
namespace Go.Proofs.YthmgkjfohkadoaaGreatDoor
open Go.RowKit
set_option linter.unusedVariables false

theorem gnPow : Tryz.prog.globalNamed "internal/strconv.uint64pow10" = some 4 := by kernel_rfl
theorem gnEs : Tryz.prog.globalNamed "strconv.ErrSyntax" = some 2 := by kernel_rfl
theorem gnEr : Tryz.prog.globalNamed "strconv.ErrRange" = some 3 := by kernel_rfl
/-- the library's tables and errors stand as they were laid -/
structure Tabs (w : World) : Prop where
  pow : Lib.TabIs Tryz.prog w "internal/strconv.uint64pow10" .u64 Lib.pow10Tab
  de : w.cell? ⟨6, 15, none⟩ = some (.int .u8 4)
  es : ∃ tp p, w.var? Tryz.prog "strconv.ErrSyntax" = some #[.iface tp p]
  er : ∃ tp p, w.var? Tryz.prog "strconv.ErrRange" = some #[.iface tp p]
theorem Tabs.below {w w' : World} {B : Nat} (h : Tabs w) (hb : Below B w w') (hB : w.heap.size ≤ B) : Tabs w' where
  pow := Joins.var_stays gnPow h.pow hb hB
  de := (hb.cell (p := ⟨6, 15, none⟩) (Nat.lt_of_lt_of_le (lt_of_cell h.de) hB)).trans h.de
  es := by obtain ⟨tp, p, e⟩ := h.es; exact ⟨tp, p, Joins.var_stays gnEs e hb hB⟩
  er := by obtain ⟨tp, p, e⟩ := h.er; exact ⟨tp, p, Joins.var_stays gnEr e hb hB⟩

theorem of_grow {w w' : World} (h : ∃ k os, w' = Sort.grow (w.drewN k) os) : Below w.heap.size w w' := by
  obtain ⟨k, os, rfl⟩ := h
  exact Lib.below_grow _ w (Nat.le_refl _) k os

theorem bitLen_log {m : Nat} (h0 : 0 < m) (h : m < 18446744073709551616) : Lib.bitLen m = m.log2 + 1 := by
  obtain ⟨a, b, c⟩ := Lib.bitLenAux_bounds 64 m (by simpa using h) (by omega)
  unfold Lib.bitLen
  have h1 := (Nat.le_log2 (by omega)).2 b
  have h2 := (Nat.log2_lt (by omega)).2 c
  omega

theorem and52 {m d : Nat} (h : m * 2 ^ d < 9007199254740992) : bits .and .u64 (IntKind.u64.wrap ((m : Int) * 2 ^ d)) 4503599627370495 = ((m * 2 ^ d % 4503599627370496 : Nat) : Int) := by
  have e : ((m : Int) * 2 ^ d) = ((m * 2 ^ d : Nat) : Int) := by rw [Int.natCast_mul, Int.natCast_pow]; rfl
  rw [e]
  generalize m * 2 ^ d = x at h ⊢
  have e2 : IntKind.u64.wrap (x : Int) = (x : Int) := by
    simp only [IntKind.wrap, IntKind.bits, IntKind.signed]
    simp
    omega
  rw [e2]
  have := u64_and_nat x 4503599627370495 (by omega) (by omega)
  rw [show x &&& 4503599627370495 = x % 4503599627370496 from Nat.and_two_pow_sub_one_eq_mod x 52] at this
  exact this
set_option maxRecDepth 100000 in
set_option maxHeartbeats 400000 in
theorem split_low (m : Nat) (w : World) (h0 : 0 < m) (h : m < 4503599627370496) :
    Calls Tryz.prog 85 #[.int .u64 m] w fun e w' => e = .returned (.tuple #[.int .i64 (expoF m), .int .u64 (fracF m)]) ∧ w = w' := by
  have hL := (log2_bd h0 h).1
  have hB := bitLen_log h0 (show m < 18446744073709551616 by omega)
  have hB2 : Lib.bitLen 4503599627370496 = 53 := by decide +kernel
  have C1 : Calls Tryz.prog 99 #[.int .u64 m] w fun e w' => e = .returned (.int .i64 (63 - (m.log2 : Int))) ∧ w = w' :=
    (Tryz.bits_LeadingZeros64 m w (by omega) (by omega)).mono fun e w' ⟨he, hw⟩ => ⟨by rw [he, Int.toNat_natCast, hB]; exact ret_int' (by omega), hw.symm⟩
  have C2 : Calls Tryz.prog 99 #[.int .u64 4503599627370496] w fun e w' => e = .returned (.int .i64 11) ∧ w = w' :=
    (Tryz.bits_LeadingZeros64 4503599627370496 w (by omega) (by omega)).mono fun e w' ⟨he, hw⟩ => ⟨by rw [he]; exact ret_int' (by rw [show Int.toNat 4503599627370496 = 4503599627370496 by rfl, hB2]; omega), hw.symm⟩
  obtain ⟨d, hd⟩ : ∃ d : Nat, d = 52 - m.log2 := ⟨_, rfl⟩
  have hs := (sub_norm h0 h).2
  rw [← hd] at hs
  have H1 : Hid (expoF m = -1022 - (d : Int)) := Lib.hid (by unfold expoF; rw [if_pos h]; omega)
  have H2 : Hid (fracF m = m * 2 ^ d % 4503599627370496) := Lib.hid (by unfold fracF; rw [if_pos h, hd])
  rw [show 63 - (m.log2 : Int) = 11 + (d : Int) by omega] at C1
  have hd1 : 1 ≤ d := by omega
  have hd2 : d ≤ 52 := by omega
  have HS := Lib.hid hs
  have hi0 : (0 : Int) < (m : Int) := by omega
  have hi1 : (m : Int) < 4503599627370496 := by omega
  clear hd hL hB hB2 hs h h0
  have HC1 := Lib.hid C1
  have HC2 := Lib.hid C2
  clear C1 C2
  go_enter Tryz.func85, Tryz.ntmps85
  go_wp2_with fail
  refine HC1.out.mono ?_
  rintro e w' ⟨rfl, rfl⟩
  go_wp2_with fail
  refine HC2.out.mono ?_
  rintro e w' ⟨rfl, rfl⟩
  go_upto_region 5 with fail
  rw [show (11 : Int) + (d : Int) - 11 = d by omega]
  go_wp2
  go_ret2
  exact ⟨ret_two (int_eq H1.out.symm) (int_eq (by rw [H2.out]; exact and52 HS.out)), rfl⟩

set_option maxRecDepth 100000 in
set_option maxHeartbeats 400000 in
theorem split_high (m : Nat) (w : World) (h0 : (4503599627370496 : Int) ≤ (m : Int)) (h : (m : Int) < 9218868437227405312) :
    Calls Tryz.prog 85 #[.int .u64 m] w fun e w' => e = .returned (.tuple #[.int .i64 (expoF m), .int .u64 (fracF m)]) ∧ w = w' := by
  have H0 : (m : Int) ≤ 9223372036854775807 := by omega
  have H1 : Hid (expoF m = (m : Int) / 4503599627370496 - 1023) := Lib.hid (by unfold expoF; rw [if_neg (by omega)]; omega)
  have H2 : Hid (bits .and .u64 (m : Int) 4503599627370495 = ((fracF m : Nat) : Int)) := Lib.hid (by
    rw [show fracF m = m % 4503599627370496 by unfold fracF; rw [if_neg (by omega)]]
    have := u64_and_nat m 4503599627370495 (by omega) (by omega)
    rw [show m &&& 4503599627370495 = m % 4503599627370496 from Nat.and_two_pow_sub_one_eq_mod m 52] at this
    exact this)
  generalize (m : Int) = x at *
  go_enter Tryz.func85, Tryz.ntmps85
  go_wp2
  go_ret2
  exact ⟨ret_two (int_eq H1.out.symm) (int_eq H2.out), rfl⟩

theorem split_any (m : Nat) (w : World) (h0 : 0 < m) (h : m < 9218868437227405312) :
    Calls Tryz.prog 85 #[.int .u64 m] w fun e w' => e = .returned (.tuple #[.int .i64 (expoF m), .int .u64 (fracF m)]) ∧ w = w' := by
  by_cases h1 : m < 4503599627370496
  · exact split_low m w h0 h1
  · exact split_high m w (by omega) (by omega)

theorem trimRight_strip (l : List UInt8) : Lib.trimRightB l 48 = strip0 l := by
  unfold Lib.trimRightB strip0
  congr 2
  funext c
  rw [Bool.eq_iff_iff, beq_iff_eq, beq_iff_eq, ← UInt8.toNat_inj]
  rfl

theorem hexN_add : ∀ (p n k : Nat), hexN (n + k * 16 ^ p) p = hexN n p
  | 0, _, _ => rfl
  | p + 1, n, k => by
    have e1 : (n + k * 16 ^ (p + 1)) % 16 = n % 16 := by rw [Nat.pow_succ, ← Nat.mul_assoc]; omega
    have e2 : (n + k * 16 ^ (p + 1)) / 16 = n / 16 + k * 16 ^ p := by rw [Nat.pow_succ, ← Nat.mul_assoc]; omega
    rw [hexN, hexN, e1, e2, hexN_add p]
theorem hex_lead {f : Nat} (h : f < 4503599627370496) : hexN (4503599627370496 + f) 14 = 49 :: hexN f 13 := by
  rw [hexN_front 13]
  have e := hexN_add 13 f 1
  rw [show (4503599627370496 + f) / 16 ^ 13 % 16 = 1 by omega, Nat.add_comm, show f + 4503599627370496 = f + 1 * 16 ^ 13 by omega, e]
  rfl
theorem ext_tail (c : UInt8) (l : List UInt8) : (⟨(c :: l).toArray⟩ : ByteArray).extract 1 (l.length + 1) = ⟨l.toArray⟩ := by
  have h := Lib.extract_data ⟨(c :: l).toArray⟩ 1 (l.length + 1)
  generalize (⟨(c :: l).toArray⟩ : ByteArray).extract 1 (l.length + 1) = s at h
  obtain ⟨⟨m⟩⟩ := s
  simp only [List.drop_succ_cons, List.drop_zero, Nat.add_sub_cancel, List.take_length] at h
  rw [h]
theorem app_str (a b : List UInt8) : (⟨a.toArray⟩ : ByteArray) ++ ⟨b.toArray⟩ = ⟨(a ++ b).toArray⟩ := by
  rw [ByteArray.mk_append_mk]

theorem fracT_zero : fracT 0 = [] := rfl
theorem fracT_pos {f : Nat} (h : f ≠ 0) : fracT f = 46 :: strip0 (hexN f 13) := by unfold fracT; rw [if_neg h]
set_option maxRecDepth 100000 in
set_option maxHeartbeats 400000 in
theorem fraction_zero (w : World) :
    Calls Tryz.prog 86 #[.int .u64 0] w fun e w' => e = .returned (.string ⟨(fracT 0).toArray⟩) ∧ Below w.heap.size w w' := by
  go_enter Tryz.func86, Tryz.ntmps86
  go_wp2
  go_ret
  exact ⟨rfl, Below.refl _ _⟩
set_option maxRecDepth 100000 in
set_option maxHeartbeats 400000 in
theorem fraction_pos (f : Nat) (w : World) (hT : Tabs w) (h0 : (0 : Int) < (f : Int)) (h : (f : Int) < 4503599627370496) :
    Calls Tryz.prog 86 #[.int .u64 f] w fun e w' => e = .returned (.string ⟨(fracT f).toArray⟩) ∧ Below w.heap.size w w' := by
  have e1 := or_one (f := f) (by omega)
  have e2 : ((f : Int) == 0) = false := by rw [beq_eq_false_iff_ne]; omega
  have HC := Lib.hid (formatUint16 (4503599627370496 + f) (by omega) (by omega) w hT.de)
  have HF := Lib.hid (fracT_pos (f := f) (by omega))
  have HX : Hid (hexN (4503599627370496 + f) 14 = 49 :: hexN f 13) := Lib.hid (hex_lead (by omega))
  obtain ⟨U, hU⟩ : ∃ U, U = 4503599627370496 + f := ⟨_, rfl⟩
  rw [← hU] at e1 HC HX
  clear hU hT
  go_enter Tryz.func86, Tryz.ntmps86
  go_wp2_with fail
  refine HC.out.mono ?_
  rintro e w1 ⟨rfl, hb⟩
  rw [HX.out]
  go_wp2_with fail
  rw [ext_tail]
  have HTR : Calls Tryz.prog 101 #[.string ⟨(hexN f 13).toArray⟩, .string ⟨#[48]⟩] w1 fun e w' => e = .returned (.string ⟨(strip0 (hexN f 13)).toArray⟩) ∧ w1 = w' :=
    (Tryz.strings_TrimRight_one ⟨(hexN f 13).toArray⟩ 48 (by decide) w1 (by rw [show ByteArray.size ⟨(hexN f 13).toArray⟩ = (hexN f 13).length by simp [ByteArray.size], hexN_len]; omega)).mono
      fun e w' ⟨he, hw⟩ => ⟨by rw [he, ← trimRight_strip], hw.symm⟩
  obtain ⟨L, hL⟩ : ∃ L, L = strip0 (hexN f 13) := ⟨_, rfl⟩
  rw [← hL] at HTR
  have HL := Lib.hid hL
  clear hL
  refine HTR.mono ?_
  rintro e w2 ⟨rfl, rfl⟩
  clear HTR
  obtain ⟨S, hS⟩ : ∃ S : ByteArray, S = ⟨L.toArray⟩ := ⟨_, rfl⟩
  rw [← hS]
  have HS := Lib.hid hS
  have hS1 : S.size ≤ 13 := by rw [hS]; show L.toArray.size ≤ 13; rw [List.size_toArray, HL.out]; have := strip0_le (hexN f 13); rw [hexN_len] at this; exact this
  clear hS e1 e2 h h0
  go_wp2
  go_ret
  refine ⟨ret_str' ?_, hb⟩
  rw [HF.out, HS.out, HL.out]
  exact app_str [46] _
end Go.Proofs.YthmgkjfohkadoaaGreatDoor

/- Layer 5: exponents, magnitudes, floats as texts. -/
namespace Go.Proofs.YthmgkjfohkadoaaGreatDoor
open Go.RowKit
set_option linter.unusedVariables false

theorem str_size (l : List UInt8) : ByteArray.size ⟨l.toArray⟩ = l.length := by simp [ByteArray.size]
theorem dd_len {n : Nat} (h : n < 10000) : (Lib.decDigits n).length ≤ 4 := by
  rw [Lib.decDigits_length]
  by_cases h1 : n < 10
  · rw [Lib.nDigits_small h1]; omega
  rw [Lib.nDigits_big h1]
  by_cases h2 : n / 10 < 10
  · rw [Lib.nDigits_small h2]; omega
  rw [Lib.nDigits_big h2]
  by_cases h3 : n / 10 / 10 < 10
  · rw [Lib.nDigits_small h3]; omega
  rw [Lib.nDigits_big h3]
  rw [Lib.nDigits_small (by omega)]; omega
theorem expT_neg {e : Int} (h : e < 0) : expT e = 109 :: Lib.decDigits e.natAbs := by unfold expT; rw [if_pos h]
theorem expT_nn {e : Int} (h : ¬ e < 0) : expT e = 112 :: Lib.decDigits e.toNat := by unfold expT; rw [if_neg h]
theorem expT_len {e : Int} (h0 : -1074 ≤ e) (h1 : e ≤ 1023) : (expT e).length ≤ 5 := by
  unfold expT
  split
  · have := dd_len (n := e.natAbs) (by omega); simp; omega
  · have := dd_len (n := e.toNat) (by omega); simp; omega
theorem fracT_len (f : Nat) : (fracT f).length ≤ 14 := by
  unfold fracT
  split
  · simp
  · have := strip0_le (hexN f 13); rw [hexN_len] at this; simp; omega

set_option maxRecDepth 100000 in
set_option maxHeartbeats 400000 in
theorem exponent_any (e : Int) (w : World) (hT : Tabs w) (h0 : -1074 ≤ e) (h1 : e ≤ 1023) :
    Calls Tryz.prog 87 #[.int .i64 e] w fun e' w' => e' = .returned (.string ⟨(expT e).toArray⟩) ∧ Below w.heap.size w w' := by
  have HT := Lib.hid hT
  clear hT
  by_cases hn : e < 0
  · have HX := Lib.hid (expT_neg hn)
    have HI : Hid (Lib.itoa (-e) = Lib.decDigits e.natAbs) := Lib.hid (by rw [itoa_nn (by omega)]; congr 1; omega)
    have hl := dd_len (n := e.natAbs) (by omega)
    obtain ⟨L, hL⟩ : ∃ L, L = Lib.decDigits e.natAbs := ⟨_, rfl⟩
    rw [← hL] at HX HI hl
    clear hL
    obtain ⟨S, hS⟩ : ∃ S : ByteArray, S = ⟨L.toArray⟩ := ⟨_, rfl⟩
    have hs : S.size ≤ 4 := by rw [hS, str_size]; exact hl
    have HS := Lib.hid hS
    clear hS hl
    go_enter Tryz.func87, Tryz.ntmps87
    go_wp2_with fail
    refine (Tryz.strconv_Itoa (-e) (by omega) (by omega) _ HT.out.pow).mono ?_
    rintro e' w1 ⟨rfl, hb⟩
    have hb := of_grow hb
    rw [HI.out, ← HS.out]
    go_wp2
    go_ret
    exact ⟨ret_str' (by rw [HX.out, HS.out]; exact app_str [109] _), hb⟩
  · have HX := Lib.hid (expT_nn hn)
    have HI : Hid (Lib.itoa e = Lib.decDigits e.toNat) := Lib.hid (by rw [itoa_nn (by omega)])
    have hl := dd_len (n := e.toNat) (by omega)
    obtain ⟨L, hL⟩ : ∃ L, L = Lib.decDigits e.toNat := ⟨_, rfl⟩
    rw [← hL] at HX HI hl
    clear hL
    obtain ⟨S, hS⟩ : ∃ S : ByteArray, S = ⟨L.toArray⟩ := ⟨_, rfl⟩
    have hs : S.size ≤ 4 := by rw [hS, str_size]; exact hl
    have HS := Lib.hid hS
    have hnn : 0 ≤ e := by omega
    clear hS hl hn
    go_enter Tryz.func87, Tryz.ntmps87
    go_wp2_with fail
    refine (Tryz.strconv_Itoa e (by omega) (by omega) _ HT.out.pow).mono ?_
    rintro e' w1 ⟨rfl, hb⟩
    have hb := of_grow hb
    rw [HI.out, ← HS.out]
    go_wp2
    go_ret
    exact ⟨ret_str' (by rw [HX.out, HS.out]; exact app_str [112] _), hb⟩

theorem magT_zero : magT 0 = [48, 120, 48] := rfl
theorem magT_inf : magT 9218868437227405312 = [48, 120, 105, 110, 102] := by unfold magT; rw [if_neg (by omega), if_pos rfl]
theorem magT_pos {m : Nat} (h0 : 0 < m) (h : m < 9218868437227405312) : magT m = 48 :: 120 :: 49 :: (fracT (fracF m) ++ expT (expoF m)) := by
  unfold magT; rw [if_neg (by omega), if_neg (by omega)]

set_option maxRecDepth 100000 in
set_option maxHeartbeats 400000 in
theorem magnitude_pos (m : Nat) (w : World) (hT : Tabs w) (h0 : 0 < m) (h : m < 9218868437227405312) :
    Calls Tryz.prog 72 #[.int .u64 m] w fun e' w' => e' = .returned (.string ⟨(magT m).toArray⟩) ∧ Below w.heap.size w w' := by
  have HX := Lib.hid (magT_pos h0 h)
  have HC := Lib.hid fun w => split_any m w h0 h
  have hf := fracF_lt m
  obtain ⟨he0, he1⟩ := expoF_bd h0 h
  have e1 : ((m : Int) == 0) = false := by rw [beq_eq_false_iff_ne]; omega
  have e2 : ((m : Int) == 9218868437227405312) = false := by rw [beq_eq_false_iff_ne]; omega
  have hF : ∃ S : ByteArray, S = ⟨(fracT (fracF m)).toArray⟩ ∧ S.size ≤ 14 := ⟨_, rfl, by rw [str_size]; exact fracT_len _⟩
  have hE : ∃ S : ByteArray, S = ⟨(expT (expoF m)).toArray⟩ ∧ S.size ≤ 5 := ⟨_, rfl, by rw [str_size]; exact expT_len he0 he1⟩
  have HFr : Hid (∀ w, Tabs w → Calls Tryz.prog 86 #[.int .u64 (fracF m)] w fun e w' => e = .returned (.string ⟨(fracT (fracF m)).toArray⟩) ∧ Below w.heap.size w w') := Lib.hid fun w hT => by
    by_cases hz : fracF m = 0
    · rw [hz]; exact fraction_zero w
    · exact fraction_pos _ w hT (by omega) (by omega)
  have HEx := Lib.hid fun w hT => exponent_any (expoF m) w hT he0 he1
  have HT := Lib.hid hT
  obtain ⟨F, hF1, hF2⟩ := hF
  obtain ⟨X, hX1, hX2⟩ := hE
  rw [← hF1] at HFr
  rw [← hX1] at HEx
  have HF1 := Lib.hid hF1
  have HX1 := Lib.hid hX1
  obtain ⟨E, hE⟩ : ∃ E, E = expoF m := ⟨_, rfl⟩
  obtain ⟨G, hG⟩ : ∃ G, G = fracF m := ⟨_, rfl⟩
  rw [← hE] at HC HEx
  rw [← hG] at HC HFr
  clear hF1 hX1 hT hf he0 he1 hE hG h0 h
  go_enter Tryz.func72, Tryz.ntmps72
  go_wp2_with fail
  refine (HC.out _).mono ?_
  rintro e' w1 ⟨rfl, rfl⟩
  go_wp2_with fail
  refine (HFr.out _ HT.out).mono ?_
  rintro e' w1 ⟨rfl, hb1⟩
  have hT1 := Lib.hid (HT.out.below hb1 (Nat.le_refl _))
  go_wp2_with fail
  refine (HEx.out _ hT1.out).mono ?_
  rintro e' w2 ⟨rfl, hb2⟩
  go_wp2
  go_ret
  refine ⟨ret_str' ?_, hb1.trans (hb2.mono hb1.size)⟩
  rw [HX.out, HF1.out, HX1.out]
  have a1 := app_str [48, 120, 49] (fracT (fracF m))
  have a2 := app_str ([48, 120, 49] ++ fracT (fracF m)) (expT (expoF m))
  rw [← a1] at a2
  simpa using a2
set_option maxHeartbeats 400000 in
theorem magnitude_zero (w : World) :
    Calls Tryz.prog 72 #[.int .u64 0] w fun e' w' => e' = .returned (.string ⟨(magT 0).toArray⟩) ∧ Below w.heap.size w w' := by
  go_enter Tryz.func72, Tryz.ntmps72
  go_wp2
  go_ret
  exact ⟨rfl, Below.refl _ _⟩
set_option maxHeartbeats 400000 in
theorem magnitude_inf (w : World) :
    Calls Tryz.prog 72 #[.int .u64 9218868437227405312] w fun e' w' => e' = .returned (.string ⟨(magT 9218868437227405312).toArray⟩) ∧ Below w.heap.size w w' := by
  have e2 : ((9218868437227405312 : Int) == 0) = false := by decide
  go_enter Tryz.func72, Tryz.ntmps72
  go_wp2
  go_ret
  exact ⟨ret_str' (by rw [magT_inf]), Below.refl _ _⟩
theorem magnitude_any (m : Nat) (w : World) (hT : Tabs w) (h : m ≤ 9218868437227405312) :
    Calls Tryz.prog 72 #[.int .u64 m] w fun e' w' => e' = .returned (.string ⟨(magT m).toArray⟩) ∧ Below w.heap.size w w' := by
  rcases Nat.eq_zero_or_pos m with rfl | h0
  · exact magnitude_zero w
  · by_cases h1 : m = 9218868437227405312
    · subst h1; exact magnitude_inf w
    · exact magnitude_pos m w hT h0 (by omega)
end Go.Proofs.YthmgkjfohkadoaaGreatDoor

/- Layer 5: FormatFloat; ParseInt. -/
namespace Go.Proofs.YthmgkjfohkadoaaGreatDoor
open Go.RowKit
set_option linter.unusedVariables false

theorem andNot63 {b : Nat} (h : b < 18446744073709551616) : bits .andNot .u64 (b : Int) 9223372036854775808 = ((b % 9223372036854775808 : Nat) : Int) := by
  have := u64_andNot_nat b 9223372036854775808 h (by omega)
  rw [show 18446744073709551615 - 9223372036854775808 = 9223372036854775807 by omega, show b &&& 9223372036854775807 = b % 9223372036854775808 from Nat.and_two_pow_sub_one_eq_mod b 63] at this
  exact this
theorem and63 {b : Nat} (h : b < 18446744073709551616) : bits .and .u64 (b : Int) 9223372036854775808 = if 9223372036854775808 ≤ b then 9223372036854775808 else 0 := by
  have := u64_and_nat b 9223372036854775808 h (by omega)
  have hb : b.testBit 63 = decide (9223372036854775808 ≤ b) := by
    rw [Nat.testBit_eq_decide_div_mod_eq, Bool.eq_iff_iff, decide_eq_true_eq, decide_eq_true_eq]; omega
  have e : b &&& 2 ^ 63 = if 9223372036854775808 ≤ b then 2 ^ 63 else 0 := by
    apply Nat.eq_of_testBit_eq
    intro i
    rw [Nat.testBit_and, Nat.testBit_two_pow]
    by_cases h1 : 9223372036854775808 ≤ b
    · rw [if_pos h1, Nat.testBit_two_pow]
      by_cases hi : 63 = i
      · subst hi; rw [hb, decide_eq_true h1]; rfl
      · rw [decide_eq_false hi, Bool.and_false]
    · rw [if_neg h1, Nat.zero_testBit]
      by_cases hi : 63 = i
      · subst hi; rw [hb, decide_eq_false h1]; rfl
      · rw [decide_eq_false hi, Bool.and_false]
  rw [show (9223372036854775808 : Nat) = 2 ^ 63 by decide, e] at this
  refine Eq.trans this ?_
  by_cases h1 : 9223372036854775808 ≤ b
  · rw [if_pos h1, if_pos h1]; rfl
  · rw [if_neg h1, if_neg h1]; rfl

theorem formF_nan {b : Nat} (h : 9218868437227405312 < b % 9223372036854775808) : formF b = nanT := by unfold formF; rw [if_pos h]
theorem formF_neg {b : Nat} (h : ¬ 9218868437227405312 < b % 9223372036854775808) (h2 : 9223372036854775808 ≤ b) : formF b = 45 :: magT (b % 9223372036854775808) := by unfold formF; rw [if_neg h, if_pos h2]
theorem formF_pos {b : Nat} (h : ¬ 9218868437227405312 < b % 9223372036854775808) (h2 : ¬ 9223372036854775808 ≤ b) : formF b = magT (b % 9223372036854775808) := by unfold formF; rw [if_neg h, if_neg h2]
theorem magT_len {m : Nat} (h : m ≤ 9218868437227405312) : (magT m).length ≤ 22 := by
  rcases Nat.eq_zero_or_pos m with rfl | h0
  · decide
  · by_cases h1 : m = 9218868437227405312
    · subst h1; rw [magT_inf]; decide
    · rw [magT_pos h0 (by omega)]
      have a := fracT_len (fracF m)
      obtain ⟨b, c⟩ := expoF_bd h0 (show m < 9218868437227405312 by omega)
      have d := expT_len b c
      simp; omega

set_option maxRecDepth 100000 in
set_option maxHeartbeats 400000 in
theorem FormatFloat_any (b : Nat) (w : World) (hT : Tabs w) (h : b < 18446744073709551616) :
    Calls Tryz.prog 57 #[.int .u64 b] w fun e' w' => e' = .returned (.string ⟨(formF b).toArray⟩) ∧ Below w.heap.size w w' := by
  have e1 := andNot63 h
  have e2 := and63 h
  have HT := Lib.hid hT
  obtain ⟨M, hM⟩ : ∃ M, M = b % 9223372036854775808 := ⟨_, rfl⟩
  rw [← hM] at e1
  by_cases h1 : 9218868437227405312 < b % 9223372036854775808
  · have HX := Lib.hid (formF_nan h1)
    have h2 : (9218868437227405312 : Int) < (M : Int) := by omega
    clear hT hM h1 e2
    generalize (M : Int) = m at *
    generalize formF b = R at *
    generalize (b : Int) = x at *
    clear h
    go_enter Tryz.func57, Tryz.ntmps57
    go_wp2
    go_ret
    exact ⟨ret_str' (by rw [HX.out]; rfl), Below.refl _ _⟩
  have HC : Hid (∀ w, Tabs w → Calls Tryz.prog 72 #[.int .u64 (M : Int)] w fun e' w' => e' = .returned (.string ⟨(magT M).toArray⟩) ∧ Below w.heap.size w w') := Lib.hid fun w hT => magnitude_any M w hT (by omega)
  have hl : (magT M).length ≤ 22 := magT_len (by omega)
  obtain ⟨S, hS⟩ : ∃ S : ByteArray, S = ⟨(magT M).toArray⟩ := ⟨_, rfl⟩
  have hs : S.size ≤ 22 := by rw [hS, str_size]; exact hl
  rw [← hS] at HC
  have HS := Lib.hid hS
  by_cases h2 : 9223372036854775808 ≤ b
  · have HX : Hid (formF b = 45 :: magT M) := Lib.hid (by rw [formF_neg h1 h2, hM])
    have h3 : (M : Int) ≤ (9218868437227405312 : Int) := by omega
    rw [if_pos h2] at e2
    have e3 : ((9223372036854775808 : Int) != 0) = true := by decide
    clear hT hM h1 hl hS h2
    generalize hQ : (⟨(45 :: magT M).toArray⟩ : ByteArray) = Q
    have HQ : Hid (⟨#[45]⟩ ++ S = Q) := Lib.hid (by rw [HS.out, ← hQ]; exact app_str [45] _)
    have HR : Hid ((⟨(formF b).toArray⟩ : ByteArray) = Q) := Lib.hid (by rw [HX.out, hQ])
    clear hQ HX HS
    generalize (M : Int) = m at *
    generalize (⟨(formF b).toArray⟩ : ByteArray) = R at *
    generalize (b : Int) = x at *
    clear h
    go_enter Tryz.func57, Tryz.ntmps57
    go_wp2_with fail
    refine (HC.out _ HT.out).mono ?_
    rintro e' w1 ⟨rfl, hb1⟩
    go_wp2
    go_ret
    exact ⟨ret_str' (by rw [HR.out]; exact HQ.out), hb1⟩
  · have HX : Hid (formF b = magT M) := Lib.hid (by rw [formF_pos h1 h2, hM])
    have h3 : (M : Int) ≤ (9218868437227405312 : Int) := by omega
    rw [if_neg h2] at e2
    clear hT hM h1 hl hS h2
    have HR : Hid ((⟨(formF b).toArray⟩ : ByteArray) = S) := Lib.hid (by rw [HX.out, HS.out])
    clear HX HS
    generalize (M : Int) = m at *
    generalize (⟨(formF b).toArray⟩ : ByteArray) = R at *
    generalize (b : Int) = x at *
    clear h
    go_enter Tryz.func57, Tryz.ntmps57
    go_wp2_with fail
    refine (HC.out _ HT.out).mono ?_
    rintro e' w1 ⟨rfl, hb1⟩
    go_wp2
    go_ret
    exact ⟨ret_str' HR.out.symm, hb1⟩

theorem trimNeg (l : List UInt8) : Lib.trimPrefix l [45] = cutNeg l := by
  unfold Lib.trimPrefix cutNeg
  cases l with
  | nil => rfl
  | cons c r =>
    by_cases e : c.toNat = 45
    · obtain rfl : c = 45 := UInt8.toNat_inj.1 (by rw [e]; rfl)
      simp [Lib.hasPrefix]
    · have e' : c ≠ 45 := fun h => e (by rw [h]; rfl)
      simp [Lib.hasPrefix, e, Ne.symm e']
end Go.Proofs.YthmgkjfohkadoaaGreatDoor
