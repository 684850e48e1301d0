/- Layer 5, plain: the forms of floats. No program. -/
import Derived.Test.YthmgkjfohkadoaaGreatDoorNumPure
import Derived.Lib.Repeat
namespace Go.Proofs.YthmgkjfohkadoaaGreatDoor
open Go.Lib

def hexd (k : Nat) : UInt8 := if k < 10 then UInt8.ofNat (48 + k) else UInt8.ofNat (87 + k)
/-- the lowest 'places' hexadecimal digits -/
def hexN (n : Nat) : Nat → List UInt8
  | 0 => []
  | p + 1 => hexN (n / 16) p ++ [hexd (n % 16)]
theorem hexN_len : ∀ (p n : Nat), (hexN n p).length = p
  | 0, _ => rfl
  | p + 1, n => by simp [hexN, hexN_len p]
theorem hexN_front : ∀ (p n : Nat), hexN n (p + 1) = hexd (n / 16 ^ p % 16) :: hexN n p
  | 0, n => by simp [hexN]
  | p + 1, n => by
    rw [hexN, hexN_front p (n / 16), hexN, Nat.div_div_eq_div_mul, Nat.pow_succ, Nat.mul_comm 16]; rfl

/-- what a hexadecimal digit is worth (0 for what is none) -/
def hval (c : UInt8) : Nat := if c.toNat < 58 then c.toNat - 48 else c.toNat - 87
def isHex (c : UInt8) : Bool := decide ((48 ≤ c.toNat ∧ c.toNat ≤ 57) ∨ (97 ≤ c.toNat ∧ c.toNat ≤ 102))
theorem hexd_small {k : Nat} (h : k < 10) : (hexd k).toNat = 48 + k := by unfold hexd; rw [if_pos h]; simp; omega
theorem hexd_big {k : Nat} (h : 10 ≤ k) (h2 : k < 16) : (hexd k).toNat = 87 + k := by unfold hexd; rw [if_neg (by omega)]; simp; omega
theorem hexd_hex {k : Nat} (h : k < 16) : isHex (hexd k) = true := by
  unfold isHex
  by_cases h1 : k < 10
  · rw [hexd_small h1]; simp; omega
  · rw [hexd_big (by omega) h]; simp; omega
theorem hexd_val {k : Nat} (h : k < 16) : hval (hexd k) = k := by
  unfold hval
  by_cases h1 : k < 10
  · rw [hexd_small h1, if_pos (by omega)]; omega
  · rw [hexd_big (by omega) h, if_neg (by omega)]; omega
theorem hexN_hex : ∀ (p n : Nat), (hexN n p).all isHex = true
  | 0, _ => rfl
  | p + 1, n => by simp [hexN, hexN_hex p, hexd_hex (Nat.mod_lt n (show 0 < 16 by omega))]
/-- the value of hexadecimal digits behind a -/
def xstep (a : Nat) (c : UInt8) : Nat := a * 16 + hval c
def valx (a : Nat) (l : List UInt8) : Nat := l.foldl xstep a
theorem valx_nil (a : Nat) : valx a [] = a := by unfold valx; rw [List.foldl_nil]
theorem valx_cons (a : Nat) (c : UInt8) (r : List UInt8) : valx a (c :: r) = valx (a * 16 + hval c) r := by unfold valx; rw [List.foldl_cons, xstep]
theorem valx_snoc : ∀ (l : List UInt8) (a : Nat) (c : UInt8), valx a (l ++ [c]) = valx a l * 16 + hval c
  | [], a, c => by rw [List.nil_append, valx_cons, valx_nil, valx_nil]
  | d :: r, a, c => by rw [List.cons_append, valx_cons, valx_snoc r, valx_cons]
theorem valx_app : ∀ (l m : List UInt8) (a : Nat), valx a (l ++ m) = valx (valx a l) m
  | [], _, a => by rw [List.nil_append, valx_nil]
  | c :: r, m, a => by rw [List.cons_append, valx_cons, valx_app r m, valx_cons]
theorem valx_hexN : ∀ (p n a : Nat), valx a (hexN n p) = a * 16 ^ p + n % 16 ^ p
  | 0, n, a => by rw [hexN, valx_nil]; simp [Nat.mod_one]
  | p + 1, n, a => by
    rw [hexN, valx_snoc, valx_hexN p, hexd_val (Nat.mod_lt n (by omega)), Nat.pow_succ]
    have e : n % (16 ^ p * 16) = n / 16 % 16 ^ p * 16 + n % 16 := by
      rw [Nat.mul_comm (16 ^ p) 16, Nat.mod_mul]; omega
    rw [e, Nat.add_mul, Nat.mul_assoc]; omega

/-- without the zeros at the end -/
def strip0 (l : List UInt8) : List UInt8 := (l.reverse.dropWhile (fun c => c.toNat == 48)).reverse
theorem strip0_eq (l : List UInt8) : l = strip0 l ++ List.replicate (l.length - (strip0 l).length) 48 := by
  have h := List.takeWhile_append_dropWhile (p := fun c : UInt8 => c.toNat == 48) (l := l.reverse)
  have h2 : l = (l.reverse.dropWhile (fun c => c.toNat == 48)).reverse ++ (l.reverse.takeWhile (fun c => c.toNat == 48)).reverse := by
    rw [← List.reverse_append, h, List.reverse_reverse]
  have hr : (l.reverse.takeWhile (fun c => c.toNat == 48)) = List.replicate (l.reverse.takeWhile (fun c => c.toNat == 48)).length 48 := by
    rw [List.eq_replicate_iff]
    refine ⟨rfl, fun c hc => ?_⟩
    have hp : ∀ (m : List UInt8), c ∈ m.takeWhile (fun c => c.toNat == 48) → c.toNat = 48 := by
      intro m
      induction m with
      | nil => simp
      | cons d t ih =>
        rw [List.takeWhile_cons]
        by_cases e : (d.toNat == 48) = true
        · rw [if_pos e, List.mem_cons]
          rintro (rfl | h)
          · simpa using e
          · exact ih h
        · rw [if_neg e]; simp
    exact UInt8.toNat_inj.1 (hp _ hc)
  have hl := congrArg List.length h2
  rw [List.length_append, List.length_reverse, List.length_reverse] at hl
  unfold strip0
  rw [List.length_reverse]
  generalize hA : (l.reverse.takeWhile (fun c => c.toNat == 48)) = A at *
  generalize hB : (l.reverse.dropWhile (fun c => c.toNat == 48)) = B at *
  rw [show l.length - B.length = A.length by omega]
  conv => lhs; rw [h2, hr]
  rw [List.reverse_replicate]
theorem strip0_le (l : List UInt8) : (strip0 l).length ≤ l.length := by
  have := congrArg List.length (strip0_eq l)
  rw [List.length_append] at this; omega
theorem strip0_mem {l : List UInt8} {c : UInt8} (h : c ∈ strip0 l) : c ∈ l := by
  rw [strip0_eq l]; exact List.mem_append_left _ h
theorem strip0_nil {l : List UInt8} (h : strip0 l = []) : l = List.replicate l.length 48 := by
  have := strip0_eq l
  rw [h] at this; simpa using this

/-! ### the parts of a float -/
def expoF (m : Nat) : Int := if m < 4503599627370496 then (m.log2 : Int) - 1074 else ((m / 4503599627370496 : Nat) : Int) - 1023
def fracF (m : Nat) : Nat := if m < 4503599627370496 then m * 2 ^ (52 - m.log2) % 4503599627370496 else m % 4503599627370496
def joinF (e : Int) (f : Nat) : Nat := if e < -1022 then (4503599627370496 + f) / 2 ^ (-1022 - e).toNat else (e + 1023).toNat * 4503599627370496 + f
theorem fracF_lt (m : Nat) : fracF m < 4503599627370496 := by
  unfold fracF; split <;> exact Nat.mod_lt _ (by omega)
theorem log2_bd {m : Nat} (h0 : 0 < m) (h : m < 4503599627370496) : m.log2 ≤ 51 ∧ 2 ^ m.log2 ≤ m ∧ m < 2 ^ (m.log2 + 1) := by
  have h1 := Nat.log2_self_le (n := m) (by omega)
  have h2 := Nat.lt_log2_self (n := m)
  refine ⟨?_, h1, h2⟩
  have : m.log2 < 52 := (Nat.log2_lt (by omega)).2 (by simpa using h)
  omega
theorem sub_norm {m : Nat} (h0 : 0 < m) (h : m < 4503599627370496) : 4503599627370496 ≤ m * 2 ^ (52 - m.log2) ∧ m * 2 ^ (52 - m.log2) < 9007199254740992 := by
  obtain ⟨h1, h2, h3⟩ := log2_bd h0 h
  constructor
  · calc 4503599627370496 = 2 ^ 52 := by decide
      _ = 2 ^ m.log2 * 2 ^ (52 - m.log2) := by rw [← Nat.pow_add]; congr 1; omega
      _ ≤ _ := Nat.mul_le_mul_right _ h2
  · calc m * 2 ^ (52 - m.log2) < 2 ^ (m.log2 + 1) * 2 ^ (52 - m.log2) := Nat.mul_lt_mul_of_pos_right h3 (Nat.two_pow_pos _)
      _ = 2 ^ 53 := by rw [← Nat.pow_add]; congr 1; omega
      _ = _ := by decide
theorem expoF_bd {m : Nat} (h0 : 0 < m) (h : m < 9218868437227405312) : -1074 ≤ expoF m ∧ expoF m ≤ 1023 := by
  unfold expoF
  split
  case isTrue h1 => have := (log2_bd h0 h1).1; omega
  case isFalse h1 => omega
theorem join_split {m : Nat} (h0 : 0 < m) (h : m < 9218868437227405312) : joinF (expoF m) (fracF m) = m := by
  unfold joinF expoF fracF
  by_cases h1 : m < 4503599627370496
  · obtain ⟨a, b, c⟩ := log2_bd h0 h1
    obtain ⟨d, e⟩ := sub_norm h0 h1
    rw [if_pos h1, if_pos h1, if_pos (by omega), show (-1022 - ((m.log2 : Int) - 1074)).toNat = 52 - m.log2 by omega]
    have hp := Nat.two_pow_pos (52 - m.log2)
    generalize 2 ^ (52 - m.log2) = q at d e hp ⊢
    have e2 : 4503599627370496 + m * q % 4503599627370496 = m * q := by omega
    rw [e2, Nat.mul_div_cancel _ hp]
  · rw [if_neg h1, if_neg h1, if_neg (by omega)]
    omega

/-! ### the forms -/
def fracT (f : Nat) : List UInt8 := if f = 0 then [] else 46 :: strip0 (hexN f 13)
def expT (e : Int) : List UInt8 := if e < 0 then 109 :: decDigits e.natAbs else 112 :: decDigits e.toNat
def magT (m : Nat) : List UInt8 :=
  if m = 0 then [48, 120, 48] else if m = 9218868437227405312 then [48, 120, 105, 110, 102] else 48 :: 120 :: 49 :: (fracT (fracF m) ++ expT (expoF m))
def nanT : List UInt8 := [48, 120, 110, 97, 110]
def formF (b : Nat) : List UInt8 :=
  if 9218868437227405312 < b % 9223372036854775808 then nanT
  else if 9223372036854775808 ≤ b then 45 :: magT (b % 9223372036854775808) else magT (b % 9223372036854775808)

/-- neither p nor m -/
def noPM (c : UInt8) : Prop := c.toNat ≠ 112 ∧ c.toNat ≠ 109
theorem fracT_noPM (f : Nat) : ∀ c ∈ fracT f, noPM c := by
  unfold fracT
  split
  · simp
  · intro c hc
    rcases List.mem_cons.1 hc with rfl | hc
    · unfold noPM; decide
    · have := List.all_eq_true.1 (hexN_hex 13 f) c (strip0_mem hc)
      have := of_decide_eq_true this
      unfold noPM; omega
/-- the digits behind the point, filled up -/
def fracD (l : List UInt8) : List UInt8 := match l with | [] => [] | c :: r => if c.toNat = 46 then r else c :: r
theorem fracD_fracT (f : Nat) (h : f < 4503599627370496) :
    fracD (fracT f) ++ List.replicate (13 - (fracD (fracT f)).length) 48 = hexN f 13 ∧ (fracD (fracT f)).length ≤ 13 := by
  have hl := hexN_len 13 f
  unfold fracT
  split
  case isTrue h0 => subst h0; exact ⟨by decide, by decide⟩
  case isFalse h0 =>
    show strip0 (hexN f 13) ++ _ = _ ∧ _
    have h1 := strip0_eq (hexN f 13)
    have h2 := strip0_le (hexN f 13)
    rw [hl] at h1 h2
    exact ⟨h1.symm, h2⟩
theorem valx_frac (f : Nat) (h : f < 4503599627370496) : valx 0 (hexN f 13) = f := by
  rw [valx_hexN]; simp; exact h
end Go.Proofs.YthmgkjfohkadoaaGreatDoor
