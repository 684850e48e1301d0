/- Layer 5, the document's own answer: the bits that a text may stand for. -/
import Derived.Test.YthmgkjfohkadoaaGreatDoorNumRefA
namespace Go.Proofs.YthmgkjfohkadoaaGreatDoor
open Go.RowKit
set_option linter.unusedVariables false

/-- a digit as the document's guess reads it -/
def gd (c : UInt8) : Nat := if 97 ≤ c.toNat ∧ c.toNat ≤ 102 then c.toNat - 87 else c.toNat % 16
theorem gd_lt (c : UInt8) : gd c < 16 := by unfold gd; split <;> omega
theorem gd_hex {c : UInt8} (h : isHex c = true) : gd c = hval c := by
  have := of_decide_eq_true h
  unfold gd hval
  split
  · rw [if_neg (by omega)]
  · rw [if_pos (by omega)]; omega
theorem gd_dig {c : UInt8} (h : isDig c = true) : c.toNat % 16 = c.toNat - 48 := by
  have := of_decide_eq_true h
  omega
theorem valx_take {l : List UInt8} {k : Nat} {c : UInt8} (a : Nat) (h : l[k]? = some c) : valx a (l.take (k + 1)) = valx a (l.take k) * 16 + hval c ∧ (l.take (k + 1)).all isHex = ((l.take k).all isHex && isHex c) := by
  have hlt : k < l.length := by
    rcases Nat.lt_or_ge k l.length with h1 | h1
    · exact h1
    · rw [List.getElem?_eq_none h1] at h; cases h
  rw [List.take_succ_eq_append_getElem hlt, valx_snoc, List.all_append]
  rw [List.getElem?_eq_getElem hlt] at h
  injection h with h
  rw [h]
  simp

/-- what the text of a positive finite float is made of -/
theorem mag_parts {m : Nat} (h0 : 0 < m) (h : m < 9218868437227405312) {l : List UInt8} (hl : l = magT m) :
    ∃ (st : Nat) (D E : List UInt8) (c : UInt8) (n : Nat), (st = if l[3]? = some 46 then 4 else 3) ∧ l.drop st = D ++ c :: E ∧ D.length ≤ 13 ∧ D.all isHex = true ∧ (∀ x ∈ D, noPM x) ∧ (c.toNat = 112 ∨ c.toNat = 109) ∧
      E = Lib.decDigits n ∧ E.length ≤ 4 ∧ (expoF m = if c.toNat = 109 then -(n : Int) else n) ∧ D ++ List.replicate (13 - D.length) 48 = hexN (fracF m) 13 ∧ 5 ≤ l.length := by
  rw [magT_pos h0 h] at hl
  obtain ⟨e0, e1⟩ := expoF_bd h0 h
  obtain ⟨f0, f1⟩ := fracD_fracT (fracF m) (fracF_lt m)
  have hexp : ∃ c n, expT (expoF m) = c :: Lib.decDigits n ∧ (c.toNat = 112 ∨ c.toNat = 109) ∧ (expoF m = if c.toNat = 109 then -(n : Int) else n) ∧ n < 10000 := by
    by_cases hn : expoF m < 0
    · exact ⟨109, (expoF m).natAbs, expT_neg hn, .inr rfl, by rw [if_pos (by decide)]; omega, by omega⟩
    · exact ⟨112, (expoF m).toNat, expT_nn hn, .inl rfl, by rw [if_neg (by decide)]; omega, by omega⟩
  obtain ⟨c, n, hc, hpm, hcn, hn⟩ := hexp
  have hdl := dd_len hn
  have hdn := dd_ne n
  have hdl1 : 1 ≤ (Lib.decDigits n).length := by
    rcases Nat.eq_zero_or_pos (Lib.decDigits n).length with h | h
    · exact absurd (List.eq_nil_of_length_eq_zero h) hdn
    · exact h
  rw [hc] at hl
  by_cases hz : fracF m = 0
  · have hft : fracT (fracF m) = [] := by unfold fracT; rw [if_pos hz]
    rw [hft] at hl f0 f1
    refine ⟨3, [], Lib.decDigits n, c, n, ?_, ?_, by simp, rfl, by simp, hpm, rfl, hdl, hcn, ?_, ?_⟩
    · rw [hl, if_neg]
      simp
      intro h
      subst h
      rcases hpm with h | h <;> exact absurd h (by decide)
    · rw [hl]; rfl
    · exact f0
    · rw [hl]; simp; omega
  · have hft : fracT (fracF m) = 46 :: strip0 (hexN (fracF m) 13) := by unfold fracT; rw [if_neg hz]
    have hfd : fracD (fracT (fracF m)) = strip0 (hexN (fracF m) 13) := by rw [hft]; rfl
    rw [hfd] at f0 f1
    have hah : (strip0 (hexN (fracF m) 13)).all isHex = true := List.all_eq_true.2 fun x hx => List.all_eq_true.1 (hexN_hex 13 _) x (strip0_mem hx)
    refine ⟨4, strip0 (hexN (fracF m) 13), Lib.decDigits n, c, n, ?_, ?_, f1, hah, ?_, hpm, rfl, hdl, hcn, f0, ?_⟩
    · rw [hl, hft]; rfl
    · rw [hl, hft]; rfl
    · intro x hx
      have := of_decide_eq_true (List.all_eq_true.1 hah x hx)
      unfold noPM; omega
    · rw [hl, hft]; simp; omega
end Go.Proofs.YthmgkjfohkadoaaGreatDoor

/- Layer 5, the document's own answer: the bits that a text may stand for, walked. -/
namespace Go.Proofs.YthmgkjfohkadoaaGreatDoor
open Go.RowKit
set_option linter.unusedVariables false

/-- what is known of guess -/
def GS (l : List UInt8) (w : World) (e : Ending) (w' : World) : Prop :=
  ∃ v : Nat, v ≤ 9223372036854775808 ∧ e = .returned (.int .u64 v) ∧ (∀ m, 0 < m → m < 9218868437227405312 → l = magT m → v = m) ∧ w = w'

theorem gs_exact {l : List UInt8} {st k A j : Nat} {V U X Y0 : Int} {sA : UInt8}
    (hst : st = if l[3]? = some 46 then 4 else 3) (hA : A = st + k) (hno : ∀ x ∈ (l.drop st).take k, noPM x) (hk : k ≤ 13)
    (hV : ((l.drop st).take k).all isHex = true → V = ((valx 1 ((l.drop st).take k) : Nat) : Int)) (hU : U = V * ((16 ^ (13 - k) : Nat) : Int)) (hsA : l[A]? = some sA) (hex : (sA.toNat = 112 ∨ sA.toNat = 109) ∨ k = 13)
    (hX : ((l.drop (A + 1)).take j).all isDig = true → X = ((vald 0 ((l.drop (A + 1)).take j) : Nat) : Int)) (hj : (l.drop (A + 1)).length ≤ j ∨ 4 ≤ j)
    (hY : Y0 = if sA.toNat = 109 then -X else X) {m : Nat} (h0 : 0 < m) (h1 : m < 9218868437227405312) (hl : l = magT m) : U = ((4503599627370496 + fracF m : Nat) : Int) ∧ Y0 = expoF m := by
  obtain ⟨st', D, E, c, n, hst', hB, hD13, hDh, hDn, hc, hE, hE4, hexp, hfr, _⟩ := mag_parts h0 h1 hl
  obtain rfl : st = st' := hst.trans hst'.symm
  rw [hB] at hno hV
  have hkD : k ≤ D.length := by
    rcases Nat.lt_or_ge D.length k with h | h
    · exfalso
      have hm : c ∈ (D ++ c :: E).take k := by
        rw [List.take_append, List.take_of_length_le (by omega)]
        refine List.mem_append_right _ ?_
        rw [show k - D.length = (k - D.length - 1) + 1 by omega, List.take_succ_cons]
        exact List.mem_cons_self
      have := hno c hm
      unfold noPM at this; omega
    · exact h
  have hsA2 : (D ++ c :: E)[k]? = some sA := by rw [← hB, List.getElem?_drop, ← hA]; exact hsA
  have hkk : k = D.length := by
    rcases Nat.lt_or_ge k D.length with h | h
    · exfalso
      rcases hex with h2 | h2
      · rw [List.getElem?_append_left h] at hsA2
        have := hDn sA (List.mem_of_getElem? hsA2)
        unfold noPM at this; omega
      · omega
    · omega
  subst hkk
  have hcs : c = sA := by
    rw [List.getElem?_append_right (Nat.le_refl _), Nat.sub_self] at hsA2
    simpa using hsA2
  subst hcs
  have htk : (D ++ c :: E).take D.length = D := by simp
  rw [htk] at hV
  have hEd : l.drop (A + 1) = E := by
    have := congrArg (fun L => L.drop (D.length + 1)) hB
    simp only [List.drop_drop] at this
    rw [hA, show st + D.length + 1 = st + (D.length + 1) by omega, this]
    rw [List.drop_append, List.drop_eq_nil_of_le (by omega)]
    simp
  rw [hEd] at hX hj
  have htj : E.take j = E := List.take_of_length_le (by omega)
  rw [htj, hE] at hX
  have hXn := hX (dd_all n)
  rw [dd_val] at hXn
  constructor
  · rw [hU, hV hDh]
    have hx := valx_app D (List.replicate (13 - D.length) 48) 1
    rw [hfr, valx_hexN] at hx
    have hz : ∀ (q a : Nat), valx a (List.replicate q 48) = a * 16 ^ q := by
      intro q
      induction q with
      | zero => intro a; simp [valx_nil]
      | succ q ih => intro a; rw [List.replicate_succ, valx_cons, ih, show hval 48 = 0 by decide, Nat.add_zero, Nat.pow_succ, Nat.mul_assoc, Nat.mul_comm 16]
    rw [hz] at hx
    have hfl := fracF_lt m
    rw [show fracF m % 16 ^ 13 = fracF m from Nat.mod_eq_of_lt (by simpa using hfl)] at hx
    rw [← Int.natCast_mul, ← hx]
  · rw [hY, hXn, hexp]

/-- what the last steps make of it -/
theorem gs_fin {l : List UInt8} {U Y0 P Y : Int} {i : Nat} (hUY : ∀ m, 0 < m → m < 9218868437227405312 → l = magT m → U = ((4503599627370496 + fracF m : Nat) : Int) ∧ Y0 = expoF m)
    (hP : P = U / ((2 ^ i : Nat) : Int)) (hY : Y = Y0 + i) (hi : 0 < i → Y ≤ -1022) (hex : -1022 ≤ Y ∨ P ≤ 0) (p0 : 0 ≤ P) (p1 : P < 9007199254740992) {m : Nat} (h0 : 0 < m) (h1 : m < 9218868437227405312) (hl : l = magT m) :
    (P < 4503599627370496 → P = (m : Int)) ∧ (4503599627370496 ≤ P → Y ≤ 1023 ∧ (Y + 1022) * 4503599627370496 + P = (m : Int)) := by
  obtain ⟨hU, hY0⟩ := hUY m h0 h1 hl
  obtain ⟨e0, e1⟩ := expoF_bd h0 h1
  have hfl := fracF_lt m
  have hj := join_split h0 h1
  subst hU hY0 hP
  rw [← Int.natCast_ediv] at *
  by_cases hi0 : i = 0
  · subst hi0
    simp only [Nat.pow_zero, Nat.div_one] at *
    refine ⟨fun h => by omega, fun _ => ⟨by omega, ?_⟩⟩
    unfold joinF at hj
    rw [if_neg (by omega)] at hj
    omega
  · have hi1 : 0 < i := by omega
    have hY1 := hi hi1
    have hp2 : 2 ≤ 2 ^ i := by
      have : 2 ^ 1 ≤ 2 ^ i := Nat.pow_le_pow_right (by omega) hi1
      simpa using this
    have hlow : (4503599627370496 + fracF m) / 2 ^ i < 4503599627370496 := by
      rw [Nat.div_lt_iff_lt_mul (by omega)]
      have : 4503599627370496 * 2 ≤ 4503599627370496 * 2 ^ i := Nat.mul_le_mul_left _ hp2
      omega
    refine ⟨fun _ => ?_, fun h => by omega⟩
    unfold joinF at hj
    rw [if_pos (by omega)] at hj
    have hle : i ≤ (-1022 - expoF m).toNat := by omega
    have hge : (4503599627370496 + fracF m) / 2 ^ (-1022 - expoF m).toNat ≤ (4503599627370496 + fracF m) / 2 ^ i := Nat.div_le_div_left (Nat.pow_le_pow_right (by omega) hle) (by omega)
    rw [hj] at hge
    have hYe : -1022 ≤ expoF m + i := by omega
    have hie : i = (-1022 - expoF m).toNat := by omega
    rw [hie, hj]

end Go.Proofs.YthmgkjfohkadoaaGreatDoor
