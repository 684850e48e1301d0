/- Layer 5, the document's own answer: the bits that a text may stand for. -/
import Derived.Test.YtdjjdhkpffjnfaaDoorNumRef4
namespace Go.Proofs.YtdjjdhkpffjnfaaDoor
open Go.RowKit
set_option linter.unusedVariables false

/-- a digit as the document's guess reads it -/
def gd (c : UInt8) : Nat := if 97 ≤ c.toNat ∧ c.toNat ≤ 102 then c.toNat - 87 else c.toNat % 16
theorem gd_lt (c : UInt8) : gd c < 16 := by unfold gd; split <;> omega
theorem gd_hex {c : UInt8} (h : isHex c = true) : gd c = hval c := by
  have := of_decide_eq_true h
  unfold gd hval
  split
  · rw [if_neg (by omega)]
  · rw [if_pos (by omega)]; omega
theorem gd_dig {c : UInt8} (h : isDig c = true) : c.toNat % 16 = c.toNat - 48 := by
  have := of_decide_eq_true h
  omega
theorem valx_take {l : List UInt8} {k : Nat} {c : UInt8} (a : Nat) (h : l[k]? = some c) : valx a (l.take (k + 1)) = valx a (l.take k) * 16 + hval c ∧ (l.take (k + 1)).all isHex = ((l.take k).all isHex && isHex c) := by
  have hlt : k < l.length := by
    rcases Nat.lt_or_ge k l.length with h1 | h1
    · exact h1
    · rw [List.getElem?_eq_none h1] at h; cases h
  rw [List.take_succ_eq_append_getElem hlt, valx_snoc, List.all_append]
  rw [List.getElem?_eq_getElem hlt] at h
  injection h with h
  rw [h]
  simp

/-- what the text of a positive finite float is made of -/
theorem mag_parts {m : Nat} (h0 : 0 < m) (h : m < 9218868437227405312) {l : List UInt8} (hl : l = magT m) :
    ∃ (st : Nat) (D E : List UInt8) (c : UInt8) (n : Nat), (st = if l[3]? = some 46 then 4 else 3) ∧ l.drop st = D ++ c :: E ∧ D.length ≤ 13 ∧ D.all isHex = true ∧ (∀ x ∈ D, noPM x) ∧ (c.toNat = 112 ∨ c.toNat = 109) ∧
      E = Lib.decDigits n ∧ E.length ≤ 4 ∧ (expoF m = if c.toNat = 109 then -(n : Int) else n) ∧ D ++ List.replicate (13 - D.length) 48 = hexN (fracF m) 13 ∧ 5 ≤ l.length := by
  rw [magT_pos h0 h] at hl
  obtain ⟨e0, e1⟩ := expoF_bd h0 h
  obtain ⟨f0, f1⟩ := fracD_fracT (fracF m) (fracF_lt m)
  have hexp : ∃ c n, expT (expoF m) = c :: Lib.decDigits n ∧ (c.toNat = 112 ∨ c.toNat = 109) ∧ (expoF m = if c.toNat = 109 then -(n : Int) else n) ∧ n < 10000 := by
    by_cases hn : expoF m < 0
    · exact ⟨109, (expoF m).natAbs, expT_neg hn, .inr rfl, by rw [if_pos (by decide)]; omega, by omega⟩
    · exact ⟨112, (expoF m).toNat, expT_nn hn, .inl rfl, by rw [if_neg (by decide)]; omega, by omega⟩
  obtain ⟨c, n, hc, hpm, hcn, hn⟩ := hexp
  have hdl := dd_len hn
  have hdn := dd_ne n
  have hdl1 : 1 ≤ (Lib.decDigits n).length := by
    rcases Nat.eq_zero_or_pos (Lib.decDigits n).length with h | h
    · exact absurd (List.eq_nil_of_length_eq_zero h) hdn
    · exact h
  rw [hc] at hl
  by_cases hz : fracF m = 0
  · have hft : fracT (fracF m) = [] := by unfold fracT; rw [if_pos hz]
    rw [hft] at hl f0 f1
    refine ⟨3, [], Lib.decDigits n, c, n, ?_, ?_, by simp, rfl, by simp, hpm, rfl, hdl, hcn, ?_, ?_⟩
    · rw [hl, if_neg]
      simp
      intro h
      subst h
      rcases hpm with h | h <;> exact absurd h (by decide)
    · rw [hl]; rfl
    · exact f0
    · rw [hl]; simp; omega
  · have hft : fracT (fracF m) = 46 :: strip0 (hexN (fracF m) 13) := by unfold fracT; rw [if_neg hz]
    have hfd : fracD (fracT (fracF m)) = strip0 (hexN (fracF m) 13) := by rw [hft]; rfl
    rw [hfd] at f0 f1
    have hah : (strip0 (hexN (fracF m) 13)).all isHex = true := List.all_eq_true.2 fun x hx => List.all_eq_true.1 (hexN_hex 13 _) x (strip0_mem hx)
    refine ⟨4, strip0 (hexN (fracF m) 13), Lib.decDigits n, c, n, ?_, ?_, f1, hah, ?_, hpm, rfl, hdl, hcn, f0, ?_⟩
    · rw [hl, hft]; rfl
    · rw [hl, hft]; rfl
    · intro x hx
      have := of_decide_eq_true (List.all_eq_true.1 hah x hx)
      unfold noPM; omega
    · rw [hl, hft]; simp; omega
end Go.Proofs.YtdjjdhkpffjnfaaDoor
