/- Layer 5, plain: the forms of whole numbers and floats as lists of bytes, and what is read of them. No program. -/
import Derived.Lib.ItoaNum
import Derived.Lib.ParseIntB
namespace Go.Proofs.YthmgkjfohkadoaaGreatDoor
open Go.Lib

/-! ### whole numbers -/
def isDig (c : UInt8) : Bool := decide (48 ≤ c.toNat ∧ c.toNat ≤ 57)
def posForm (l : List UInt8) : Bool := l.all isDig && (match l with | [] => false | c :: _ => c.toNat != 48)
def cutNeg (l : List UInt8) : List UInt8 := match l with | [] => [] | c :: r => if c.toNat = 45 then r else c :: r
def isNeg (l : List UInt8) : Bool := match l with | [] => false | c :: _ => c.toNat == 45
def intForm (l : List UInt8) : Bool := l == [48] || posForm (cutNeg l)
def vstep (a : Nat) (c : UInt8) : Nat := a * 10 + (c.toNat - 48)
def vald (a : Nat) (l : List UInt8) : Nat := l.foldl vstep a
def parseI (l : List UInt8) : Int × Int :=
  if intForm l then
    if isNeg l then if vald 0 (cutNeg l) ≤ 9223372036854775808 then (-(vald 0 (cutNeg l) : Int), 0) else (0, 51)
    else if vald 0 (cutNeg l) < 9223372036854775808 then ((vald 0 (cutNeg l) : Int), 0) else (0, 51)
  else (0, 50)

theorem vald_nil (a : Nat) : vald a [] = a := by unfold vald; rw [List.foldl_nil]
theorem vald_cons (a : Nat) (c : UInt8) (r : List UInt8) : vald a (c :: r) = vald (a * 10 + (c.toNat - 48)) r := by unfold vald; rw [List.foldl_cons, vstep]
theorem vald_snoc : ∀ (l : List UInt8) (a : Nat) (c : UInt8), vald a (l ++ [c]) = vald a l * 10 + (c.toNat - 48)
  | [], a, c => by rw [List.nil_append, vald_cons, vald_nil, vald_nil]
  | d :: r, a, c => by rw [List.cons_append, vald_cons, vald_snoc r, vald_cons]
theorem vald_ge : ∀ (l : List UInt8) (a : Nat), a ≤ vald a l
  | [], a => by rw [vald_nil]; exact Nat.le_refl _
  | c :: r, a => by have := vald_ge r (a * 10 + (c.toNat - 48)); rw [vald_cons]; omega
theorem vald_big : ∀ (l : List UInt8) (a : Nat), a * 10 ^ l.length ≤ vald a l
  | [], a => by rw [vald_nil]; simp
  | c :: r, a => by
    have := vald_big r (a * 10 + (c.toNat - 48))
    rw [vald_cons, List.length_cons, Nat.pow_succ]
    refine Nat.le_trans ?_ this
    rw [Nat.add_mul, Nat.mul_comm (10 ^ r.length) 10, ← Nat.mul_assoc]
    omega
theorem vald_lt : ∀ (l : List UInt8) (a : Nat), (l.all isDig = true) → vald a l < (a + 1) * 10 ^ l.length
  | [], a, _ => by rw [vald_nil]; simp
  | c :: r, a, h => by
    simp only [List.all_cons, Bool.and_eq_true] at h
    have hc : 48 ≤ c.toNat ∧ c.toNat ≤ 57 := of_decide_eq_true h.1
    have := vald_lt r (a * 10 + (c.toNat - 48)) h.2
    rw [vald_cons, List.length_cons, Nat.pow_succ]
    refine Nat.lt_of_lt_of_le this ?_
    rw [Nat.mul_comm (10 ^ r.length) 10, ← Nat.mul_assoc]
    exact Nat.mul_le_mul_right _ (by omega)

/-- all digits: the library's reading is the value, or out of range -/
theorem parseUintM_dig : ∀ (l : List UInt8) (a : Nat), l.all isDig = true → a < 18446744073709551616 →
    parseUintM (2 ^ 64 - 1) a l = if vald a l < 18446744073709551616 then .ok (vald a l) else .range
  | [], a, _, ha => by rw [vald_nil, if_pos ha, parseUintM]
  | c :: r, a, h, ha => by
    simp only [List.all_cons, Bool.and_eq_true] at h
    have hc : 48 ≤ c.toNat ∧ c.toNat ≤ 57 := of_decide_eq_true h.1
    have hge := vald_ge r (a * 10 + (c.toNat - 48))
    rw [vald_cons, parseUintM, if_pos hc]
    by_cases h1 : 1844674407370955162 ≤ a
    · rw [if_pos h1, if_neg (by omega)]
    · rw [if_neg h1]
      by_cases h2 : 2 ^ 64 - 1 < a * 10 + (c.toNat - 48)
      · rw [if_pos h2, if_neg (by omega)]
      · rw [if_neg h2]
        exact parseUintM_dig r _ h.2 (by omega)

theorem posForm_iff {l : List UInt8} : posForm l = true ↔ l.all isDig = true ∧ ∃ c r, l = c :: r ∧ c.toNat ≠ 48 := by
  unfold posForm
  cases l with
  | nil => simp
  | cons c r => simp

theorem parseIntB_form {l : List UInt8} (h : intForm l = true) :
    parseIntB 64 l = if isNeg l then (if vald 0 (cutNeg l) ≤ 9223372036854775808 then .ok (-(vald 0 (cutNeg l) : Int)) else .range)
      else if vald 0 (cutNeg l) < 9223372036854775808 then .ok ((vald 0 (cutNeg l) : Int)) else .range := by
  have hd : (cutNeg l).all isDig = true ∧ cutNeg l ≠ [] ∧ ∃ c r, l = c :: r ∧ c.toNat ≠ 43 := by
    unfold intForm at h
    simp only [Bool.or_eq_true, beq_iff_eq] at h
    rcases h with rfl | h
    · exact ⟨by decide, by decide, 48, [], rfl, by decide⟩
    · obtain ⟨h1, c, r, h2, h3⟩ := posForm_iff.1 h
      refine ⟨h1, by rw [h2]; simp, ?_⟩
      cases l with
      | nil => simp [cutNeg] at h2
      | cons d t =>
        refine ⟨d, t, rfl, ?_⟩
        by_cases e : d.toNat = 45
        · omega
        · simp only [cutNeg, if_neg e] at h1 h2
          simp only [List.all_cons, Bool.and_eq_true] at h1
          have := of_decide_eq_true h1.1
          omega
  obtain ⟨h1, h2, c, r, rfl, h3⟩ := hd
  have hu := parseUintM_dig (cutNeg (c :: r)) 0 h1 (by omega)
  have hB : parseUintB 64 (if c.toNat = 43 ∨ c.toNat = 45 then r else c :: r) = if vald 0 (cutNeg (c :: r)) < 18446744073709551616 then .ok (vald 0 (cutNeg (c :: r))) else .range := by
    have e : (if c.toNat = 43 ∨ c.toNat = 45 then r else c :: r) = cutNeg (c :: r) := by
      simp only [cutNeg]
      by_cases e : c.toNat = 45
      · rw [if_pos e, if_pos (Or.inr e)]
      · rw [if_neg e, if_neg (by omega)]
    rw [e]
    unfold parseUintB
    rw [if_neg h2, hu]
  unfold parseIntB
  simp only [hB]
  obtain ⟨V, hV⟩ : ∃ V, V = vald 0 (cutNeg (c :: r)) := ⟨_, rfl⟩
  rw [← hV]
  clear hB hu hV
  by_cases e : c.toNat = 45
  · simp only [show isNeg (c :: r) = true by simp [isNeg, e], if_true]
    by_cases v1 : V < 18446744073709551616
    · rw [if_pos v1]
      simp only [e, not_true_eq_false, false_and, if_false, true_and, if_true]
      by_cases v2 : V ≤ 9223372036854775808
      · rw [if_pos v2, if_neg (by omega)]
      · rw [if_neg v2, if_pos (by omega)]
    · rw [if_neg v1, if_neg (by omega)]
  · simp only [show isNeg (c :: r) = false by simp [isNeg, e], Bool.false_eq_true, if_false]
    by_cases v1 : V < 18446744073709551616
    · rw [if_pos v1]
      simp only [e, not_false_eq_true, true_and, false_and, if_false]
      by_cases v2 : V < 9223372036854775808
      · rw [if_pos v2, if_neg (by omega)]
      · rw [if_neg v2, if_pos (by omega)]
    · rw [if_neg v1, if_neg (by omega)]

theorem dd_small {n : Nat} (h : n < 10) : decDigits n = [UInt8.ofNat (48 + n)] := by rw [decDigits, dif_pos h]
theorem dd_big {n : Nat} (h : ¬ n < 10) : decDigits n = decDigits (n / 10) ++ [UInt8.ofNat (48 + n % 10)] := by rw [decDigits, dif_neg h]
theorem byte_dig {k : Nat} (h : k < 10) : (UInt8.ofNat (48 + k)).toNat = 48 + k := by simp; omega

theorem dd_all (n : Nat) : (decDigits n).all isDig = true := by
  induction n using Nat.strongRecOn with
  | _ n ih =>
    by_cases h : n < 10
    · rw [dd_small h]; simp only [List.all_cons, List.all_nil, Bool.and_true]; unfold isDig; rw [byte_dig h]; simp; omega
    · rw [dd_big h, List.all_append, ih _ (by omega)]
      simp only [List.all_cons, List.all_nil, Bool.and_true, Bool.true_and]
      unfold isDig; rw [byte_dig (Nat.mod_lt _ (by omega))]; simp; omega
theorem dd_ne (n : Nat) : decDigits n ≠ [] := by
  by_cases h : n < 10
  · rw [dd_small h]; simp
  · rw [dd_big h]; simp
theorem dd_val (n : Nat) : vald 0 (decDigits n) = n := by
  induction n using Nat.strongRecOn with
  | _ n ih =>
    by_cases h : n < 10
    · rw [dd_small h]; rw [vald_cons, vald_nil, byte_dig h]; omega
    · rw [dd_big h, vald_snoc, ih _ (by omega), byte_dig (Nat.mod_lt _ (by omega))]; omega
theorem dd_head (n : Nat) (h0 : 0 < n) : ∃ c r, decDigits n = c :: r ∧ c.toNat ≠ 48 := by
  induction n using Nat.strongRecOn with
  | _ n ih =>
    by_cases h : n < 10
    · exact ⟨_, [], dd_small h, by rw [byte_dig h]; omega⟩
    · obtain ⟨c, r, e, hc⟩ := ih (n / 10) (by omega) (by omega)
      exact ⟨c, r ++ [UInt8.ofNat (48 + n % 10)], by rw [dd_big h, e]; rfl, hc⟩
theorem dd_pos (n : Nat) (h0 : 0 < n) : posForm (decDigits n) = true := posForm_iff.2 ⟨dd_all n, dd_head n h0⟩

/-- a digit string without a zero ahead is the numeral of its value -/
theorem dd_of : ∀ (k : Nat) (l : List UInt8), l.length = k → posForm l = true → decDigits (vald 0 l) = l ∧ 0 < vald 0 l
  | 0, l, hk, h => by
    obtain rfl := List.eq_nil_of_length_eq_zero hk
    simp [posForm] at h
  | k + 1, l, hk, h => by
    obtain ⟨h1, c, r, rfl, h3⟩ := posForm_iff.1 h
    by_cases hr : r = []
    · subst hr
      simp only [List.all_cons, List.all_nil, Bool.and_true] at h1
      have hc := of_decide_eq_true h1
      have e : vald 0 [c] = c.toNat - 48 := by rw [vald_cons, vald_nil]; omega
      rw [e, dd_small (by omega)]
      refine ⟨?_, by omega⟩
      congr 1
      apply UInt8.toNat_inj.1
      rw [byte_dig (by omega)]; omega
    · obtain ⟨m, d, hmd⟩ : ∃ m d, c :: r = m ++ [d] := ⟨(c :: r).dropLast, (c :: r).getLast (by simp), (List.dropLast_concat_getLast (by simp)).symm⟩
      have hm0 : m ≠ [] := by
        rintro rfl
        simp only [List.nil_append, List.cons.injEq] at hmd
        exact hr hmd.2
      obtain ⟨c', m', rfl⟩ := List.exists_cons_of_ne_nil hm0
      simp only [List.cons_append, List.cons.injEq] at hmd
      obtain ⟨rfl, rfl⟩ := hmd
      rw [show c :: (m' ++ [d]) = (c :: m') ++ [d] from rfl] at h1 ⊢
      rw [List.all_append] at h1
      simp only [Bool.and_eq_true, List.all_cons, List.all_nil, Bool.and_true] at h1
      have hp : posForm (c :: m') = true := posForm_iff.2 ⟨by simp only [List.all_cons, Bool.and_eq_true]; exact h1.1, c, m', rfl, h3⟩
      obtain ⟨i1, i2⟩ := dd_of k (c :: m') (by simp at hk ⊢; omega) hp
      have hd := of_decide_eq_true h1.2
      rw [vald_snoc]
      generalize vald 0 (c :: m') = V at i1 i2
      refine ⟨?_, by omega⟩
      rw [dd_big (by omega), show (V * 10 + (d.toNat - 48)) / 10 = V by omega, i1]
      congr 2
      apply UInt8.toNat_inj.1
      rw [byte_dig (by omega)]; omega

theorem itoa_neg {n : Int} (h : n < 0) : itoa n = 45 :: decDigits n.natAbs := by unfold itoa; rw [if_pos h]
theorem itoa_nn {n : Int} (h : 0 ≤ n) : itoa n = decDigits n.toNat := by unfold itoa; rw [if_neg (by omega)]

theorem dig_not_neg {l : List UInt8} (h : l.all isDig = true) : isNeg l = false ∧ cutNeg l = l := by
  cases l with
  | nil => exact ⟨rfl, rfl⟩
  | cons c r =>
    simp only [List.all_cons, Bool.and_eq_true] at h
    have hc := of_decide_eq_true h.1
    constructor
    · simp only [isNeg]; rw [beq_eq_false_iff_ne]; omega
    · simp only [cutNeg]; rw [if_neg (by omega)]

/-- every int64's form is read as that number -/
theorem parseI_itoa {n : Int} (h0 : -9223372036854775808 ≤ n) (h1 : n ≤ 9223372036854775807) : parseI (itoa n) = (n, 0) := by
  rcases Int.lt_or_le n 0 with h | h
  · rw [itoa_neg h]
    have hc : cutNeg (45 :: decDigits n.natAbs) = decDigits n.natAbs := rfl
    have hn : isNeg (45 :: decDigits n.natAbs) = true := rfl
    have hf : intForm (45 :: decDigits n.natAbs) = true := by
      unfold intForm; rw [hc, dd_pos _ (by omega)]; simp
    unfold parseI
    rw [hf, hn, hc, dd_val, if_pos rfl, if_pos rfl, if_pos (by omega)]
    congr 1; omega
  · rw [itoa_nn h]
    obtain ⟨hn, hc⟩ := dig_not_neg (dd_all n.toNat)
    have hf : intForm (decDigits n.toNat) = true := by
      unfold intForm; rw [hc]
      by_cases hz : n = 0
      · subst hz; rw [show decDigits (Int.toNat 0) = [48] from dd_small (by decide)]; rfl
      · rw [dd_pos _ (by omega)]; simp
    unfold parseI
    rw [hf, hn, hc, dd_val, if_pos rfl, if_neg (by simp), if_pos (by omega)]
    congr 1; omega

theorem vald_48 : vald 0 [48] = 0 := by decide
/-- what is read has that form -/
theorem itoa_parseI {l : List UInt8} {n : Int} (h : parseI l = (n, 0)) : itoa n = l ∧ -9223372036854775808 ≤ n ∧ n ≤ 9223372036854775807 := by
  unfold parseI at h
  split at h
  case isFalse => simp at h
  case isTrue hf =>
    unfold intForm at hf
    simp only [Bool.or_eq_true, beq_iff_eq] at hf
    rcases hf with rfl | hf
    · rw [show isNeg [48] = false from rfl, show cutNeg [48] = [48] from rfl, vald_48, if_neg (by simp), if_pos (by omega)] at h
      simp only [Prod.mk.injEq] at h
      obtain ⟨rfl, _⟩ := h
      exact ⟨by rw [itoa_nn (by omega)]; exact dd_small (by decide), by omega, by omega⟩
    · obtain ⟨i1, i2⟩ := dd_of _ _ rfl hf
      by_cases hn : isNeg l = true
      · rw [if_pos hn] at h
        split at h
        case isFalse => simp at h
        case isTrue hv =>
          simp only [Prod.mk.injEq] at h
          obtain ⟨rfl, _⟩ := h
          refine ⟨?_, by omega, by omega⟩
          rw [itoa_neg (by omega), show (-(vald 0 (cutNeg l) : Int)).natAbs = vald 0 (cutNeg l) by omega, i1]
          cases l with
          | nil => simp [isNeg] at hn
          | cons c r =>
            simp only [isNeg, beq_iff_eq] at hn
            simp only [cutNeg, if_pos hn]
            congr 1
            apply UInt8.toNat_inj.1; rw [hn]; rfl
      · rw [if_neg hn] at h
        have e : cutNeg l = l := by
          cases l with
          | nil => rfl
          | cons c r =>
            simp only [isNeg, beq_iff_eq] at hn
            simp only [cutNeg, if_neg hn]
        split at h
        case isFalse => simp at h
        case isTrue hv =>
          simp only [Prod.mk.injEq] at h
          obtain ⟨rfl, _⟩ := h
          rw [e] at i1 i2 hv ⊢
          exact ⟨by rw [itoa_nn (by omega), Int.toNat_natCast, i1], by omega, by omega⟩
theorem parseI_ok {l : List UInt8} {n : Int} (h0 : -9223372036854775808 ≤ n) (h1 : n ≤ 9223372036854775807) : parseI l = (n, 0) ↔ l = itoa n :=
  ⟨fun h => (itoa_parseI h).1.symm, fun h => h ▸ parseI_itoa h0 h1⟩
theorem parseI_err (l : List UInt8) : (parseI l).2 = 0 ∨ ((parseI l).1 = 0 ∧ ((parseI l).2 = 50 ∨ (parseI l).2 = 51)) := by
  unfold parseI
  split
  · split
    · split
      · exact .inl rfl
      · exact .inr ⟨rfl, .inr rfl⟩
    · split
      · exact .inl rfl
      · exact .inr ⟨rfl, .inr rfl⟩
  · exact .inr ⟨rfl, .inl rfl⟩
theorem parseI_bd (l : List UInt8) : -9223372036854775808 ≤ (parseI l).1 ∧ (parseI l).1 ≤ 9223372036854775807 := by
  rcases parseI_err l with h | ⟨h, _⟩
  · exact (itoa_parseI (l := l) (n := (parseI l).1) (by rw [← h])).2
  · rw [h]; omega
end Go.Proofs.YthmgkjfohkadoaaGreatDoor
