/- csv: what is printed and what is read, as functions on lists of bytes. No program is named here. -/
import Derived.Test.YthmgkjfohkadoaaGreatDoorList
namespace Go.Proofs.YthmgkjfohkadoaaGreatDoor
open Go.RowKit
set_option linter.unusedVariables false

abbrev Bs := List UInt8
def mkS (l : Bs) : ByteArray := ⟨l.toArray⟩
def lS (s : ByteArray) : Bs := s.data.toList
theorem mk_lS (s : ByteArray) : mkS (lS s) = s := by
  unfold mkS lS
  rw [Array.toArray_toList]
theorem lS_mk (l : Bs) : lS (mkS l) = l := rfl
theorem mkS_inj {a b : Bs} (h : mkS a = mkS b) : a = b := by rw [← lS_mk a, h, lS_mk]
theorem lS_len (s : ByteArray) : (lS s).length = s.size := by
  unfold lS ByteArray.size
  exact Array.length_toList
theorem mkS_size (l : Bs) : (mkS l).size = l.length := by simp [mkS, ByteArray.size]
def spc (c : UInt8) : Bool := c == 34 || c == 44 || c == 13 || c == 10
def dbl : Bs → Bs
  | [] => []
  | c :: r => if c = 34 then 34 :: 34 :: dbl r else c :: dbl r
theorem dbl_append (a b : Bs) : dbl (a ++ b) = dbl a ++ dbl b := by
  induction a with
  | nil => rfl
  | cons c r ih =>
    rw [List.cons_append, dbl, dbl, ih]
    split <;> rfl
theorem dbl_len (a : Bs) : (dbl a).length ≤ 2 * a.length := by
  induction a with
  | nil => exact Nat.le_refl _
  | cons c r ih =>
    rw [dbl]
    split <;> simp <;> omega
def fmtF (f : Bs) : Bs := if f.any spc = true then 34 :: (dbl f ++ [34]) else f
theorem fmtF_len (f : Bs) : (fmtF f).length ≤ 2 * f.length + 2 := by
  have := dbl_len f
  unfold fmtF
  split <;> simp <;> omega
/-- a row's fields, with commas between them -/
def rowT : List ByteArray → Bs
  | [] => []
  | f :: r => fmtF (lS f) ++ r.flatMap fun g => 44 :: fmtF (lS g)
theorem rowT_snoc (r : List ByteArray) (g : ByteArray) : rowT (r ++ [g]) = (if r.length = 0 then [] else rowT r ++ [44]) ++ fmtF (lS g) := by
  cases r with
  | nil => simp [rowT]
  | cons f r => simp [rowT]
def rowsT (rows : List (List ByteArray)) : Bs := rows.flatMap fun r => rowT r ++ [13, 10]
theorem rowsT_snoc (a : List (List ByteArray)) (r : List ByteArray) : rowsT (a ++ [r]) = rowsT a ++ (rowT r ++ [13, 10]) := by simp [rowsT]
/-- how many bytes rows hold, and more -/
def rowW (r : List ByteArray) : Nat := (r.map fun f => 2 * f.size + 3).sum + 2
def rowsW (rows : List (List ByteArray)) : Nat := (rows.map rowW).sum
theorem rowT_len (r : List ByteArray) : (rowT r).length + 2 ≤ rowW r := by
  have h : ∀ r : List ByteArray, (r.flatMap fun g => 44 :: fmtF (lS g)).length ≤ (r.map fun f => 2 * f.size + 3).sum := by
    intro r
    induction r with
    | nil => exact Nat.le_refl _
    | cons g r ih =>
      have h1 := fmtF_len (lS g)
      rw [lS_len] at h1
      simp only [List.flatMap_cons, List.length_append, List.length_cons, List.map_cons, List.sum_cons]
      omega
  cases r with
  | nil => simp [rowT, rowW]
  | cons f r =>
    have h1 := fmtF_len (lS f)
    rw [lS_len] at h1
    have h2 := h r
    simp only [rowT, rowW, List.length_append, List.map_cons, List.sum_cons]
    omega
theorem rowsT_len (rows : List (List ByteArray)) : (rowsT rows).length ≤ rowsW rows := by
  induction rows with
  | nil => exact Nat.le_refl _
  | cons r rows ih =>
    have h1 := rowT_len r
    have e : rowsT (r :: rows) = (rowT r ++ [13, 10]) ++ rowsT rows := rfl
    rw [e]
    simp only [rowsW, List.map_cons, List.sum_cons, List.length_append, List.length_cons, List.length_nil] at ih ⊢
    omega
theorem rowsW_take (rows : List (List ByteArray)) (k : Nat) : rowsW (rows.take k) ≤ rowsW rows := by
  have h : rowsW rows = rowsW (rows.take k) + rowsW (rows.drop k) := by
    unfold rowsW
    rw [← List.sum_append, ← List.map_append, List.take_append_drop]
  omega
/-- the error of printing -/
def prE (rows : List (List ByteArray)) : Int := if rows.any (fun r => r.length == 0) = true then 2 else 0
theorem prE_ok {rows : List (List ByteArray)} (h : ∀ r ∈ rows, r ≠ []) : prE rows = 0 := by
  unfold prE
  rw [if_neg]
  intro hc
  obtain ⟨r, hr, h0⟩ := List.any_eq_true.1 hc
  exact h r hr (List.length_eq_zero_iff.1 (by simpa using h0))
theorem prE_bad {rows : List (List ByteArray)} {r : List ByteArray} (h : r ∈ rows) (h0 : r.length = 0) : prE rows = 2 := by
  unfold prE
  rw [if_pos]
  exact List.any_eq_true.2 ⟨r, h, by simp [h0]⟩
def prS (rows : List (List ByteArray)) : ByteArray := if prE rows = 0 then mkS (rowsT rows) else mkS []

/-! ### reading, by states -/
/-- states: begin, plain, quoted, closed, broken -/
inductive Cst where
  | b | p | q | c | k
deriving DecidableEq
def Cst.n : Cst → Int
  | .b => 0 | .p => 1 | .q => 2 | .c => 3 | .k => 4
abbrev Rw := List ByteArray
def consR (r : Rw) (x : List Rw × Int) : List Rw × Int := (r :: x.1, x.2)
/-- what is read of l from a state, with the row and the field so far -/
def rd (st : Cst) (row : Rw) (fd : Bs) : Bs → List Rw × Int
  | [] => match st with
    | .q => ([], 210)
    | .k => ([], 211)
    | _ => if row.length = 0 ∧ fd.length = 0 ∧ st = .b then ([], 0) else ([row ++ [mkS fd]], 0)
  | c :: l => match st with
    | .k => if c = 10 then consR row (rd .b [] [] l) else ([], 211)
    | .q => if c = 34 then rd .c row fd l else rd .q row (fd ++ [c]) l
    | _ =>
      if c = 34 then (if st = .p then ([], 210) else if st = .c then rd .q row (fd ++ [c]) l else rd .q row fd l)
      else if c = 44 then rd .b (row ++ [mkS fd]) [] l
      else if c = 13 then rd .k (row ++ [mkS fd]) [] l
      else if c = 10 then ([], 211)
      else if st = .c then ([], 210) else rd .p row (fd ++ [c]) l
/-- the rows of a text, and the error that ends the reading -/
def csvR (l : Bs) : List Rw × Int := rd .b [] [] l
theorem csvR_nil : csvR [] = ([], 0) := rfl

/-! ### reading, field by field -/
def quo : Bs → Option (Bs × Bs)
  | [] => none
  | c :: r => if c = 34 then (match r with
      | d :: r' => if d = 34 then (quo r').map fun x => (34 :: x.1, x.2) else some ([], d :: r')
      | [] => some ([], []))
    else (quo r).map fun x => (c :: x.1, x.2)
theorem quo_ne {c : UInt8} (hc : c ≠ 34) (r : Bs) : quo (c :: r) = (quo r).map fun x => (c :: x.1, x.2) := by
  rw [quo.eq_def]
  simp [hc]
def fld (l : Bs) : Option (Bs × Bs) := match l with
  | c :: r => if c = 34 then quo r else some ((c :: r).takeWhile (fun x => !spc x), (c :: r).dropWhile (fun x => !spc x))
  | [] => some ([], [])
structure Sp where
  more : Bool
  e : Int
  rest : Bs
def sep (l : Bs) : Sp := match l with
  | [] => ⟨false, 0, []⟩
  | c :: r => if c = 44 then ⟨true, 0, r⟩ else if c = 13 then (match r with
      | d :: r' => if d = 10 then ⟨false, 0, r'⟩ else ⟨false, 211, c :: r⟩
      | [] => ⟨false, 211, c :: r⟩)
    else if c = 10 then ⟨false, 211, c :: r⟩ else ⟨false, 210, c :: r⟩
theorem sep_more {l : Bs} (h : (sep l).more = true) : (sep l).e = 0 ∧ (sep l).rest.length < l.length := by
  unfold sep at h ⊢
  split at h
  · simp at h
  · split
    · simp
    · rename_i hc
      simp only [if_neg hc] at h
      split at h
      · split at h
        · split at h <;> simp at h
        · simp at h
      · split at h <;> simp at h
theorem quo_len : ∀ {l f r : Bs}, quo l = some (f, r) → f.length + r.length < l.length
  | [], _, _, h => by simp [quo] at h
  | c :: r, f, r2, h => by
    unfold quo at h
    split at h
    · split at h
      · rename_i d r'
        split at h
        · rw [Option.map_eq_some_iff] at h
          obtain ⟨x, hx, e⟩ := h
          have := quo_len (f := x.1) (r := x.2) hx
          injection e with e1 e2
          subst e1 e2
          simp
          omega
        · injection h with h
          injection h with e1 e2
          subst e1 e2
          simp
      · injection h with h
        injection h with e1 e2
        subst e1 e2
        simp
    · rw [Option.map_eq_some_iff] at h
      obtain ⟨x, hx, e⟩ := h
      have := quo_len (f := x.1) (r := x.2) hx
      injection e with e1 e2
      subst e1 e2
      simp
      omega
theorem span_len (l : Bs) : (l.takeWhile (fun x => !spc x)).length + (l.dropWhile (fun x => !spc x)).length = l.length := by
  rw [← List.length_append, List.takeWhile_append_dropWhile]
theorem fld_len {l f r : Bs} (h : fld l = some (f, r)) : f.length + r.length ≤ l.length := by
  unfold fld at h
  split at h
  · split at h
    · have := quo_len h
      simp
      omega
    · injection h with h
      injection h with e1 e2
      subst e1 e2
      exact Nat.le_of_eq (span_len _)
  · injection h with h
    injection h with e1 e2
    subst e1 e2
    exact Nat.le_refl _
/-- a row: its fields, the error, and what stands behind -/
def rowP (acc : Rw) (l : Bs) : Rw × Int × Bs :=
  match hf : fld l with
  | none => ([], 210, [])
  | some x =>
    if (sep x.2).e ≠ 0 then ([], (sep x.2).e, [])
    else if hm : (sep x.2).more = true then rowP (acc ++ [mkS x.1]) (sep x.2).rest
    else (acc ++ [mkS x.1], 0, (sep x.2).rest)
termination_by l.length
decreasing_by
  have h1 := (sep_more hm).2
  have h2 := fld_len (f := x.1) (r := x.2) hf
  omega

/-! ### the two are one -/
/-- what the states make of what stands behind a field -/
def sepS (acc : Rw) (f : Bs) (l : Bs) : List Rw × Int :=
  if (sep l).e ≠ 0 then ([], (sep l).e) else if (sep l).more = true then rd .b (acc ++ [mkS f]) [] (sep l).rest else consR (acc ++ [mkS f]) (rd .b [] [] (sep l).rest)
theorem rd_k (row : Rw) (l : Bs) : rd .k row [] l = match l with
    | d :: r' => if d = 10 then consR row (rd .b [] [] r') else ([], 211)
    | [] => ([], 211) := by
  cases l <;> rfl
theorem sepS_13 (acc : Rw) (f r : Bs) : rd .k (acc ++ [mkS f]) [] r = sepS acc f (13 :: r) := by
  rw [rd_k]
  unfold sepS sep
  cases r with
  | nil => simp
  | cons d r => by_cases h : d = 10 <;> simp [h]
theorem sepS_44 (acc : Rw) (f r : Bs) : rd .b (acc ++ [mkS f]) [] r = sepS acc f (44 :: r) := by
  unfold sepS sep
  simp
theorem rd_c (acc : Rw) (f r : Bs) (h : r.head? ≠ some 34) : rd .c acc f r = sepS acc f r := by
  cases r with
  | nil => simp [rd, sepS, sep, consR]
  | cons c r =>
    have hc : c ≠ 34 := fun e => h (by simp [e])
    by_cases h44 : c = 44
    · subst h44
      rw [← sepS_44]
      simp [rd]
    · by_cases h13 : c = 13
      · subst h13
        rw [← sepS_13]
        simp [rd]
      · by_cases h10 : c = 10
        · subst h10
          simp [rd, sepS, sep]
        · simp [rd, sepS, sep, hc, h44, h13, h10]
theorem rd_p (acc : Rw) : ∀ (l fd : Bs), rd .p acc fd l = sepS acc (fd ++ l.takeWhile (fun x => !spc x)) (l.dropWhile (fun x => !spc x))
  | [], fd => by simp [rd, sepS, sep, consR]
  | c :: l, fd => by
    by_cases hs : spc c = true
    · rw [List.takeWhile_cons_of_neg (by simp [hs]), List.dropWhile_cons_of_neg (by simp [hs]), List.append_nil]
      by_cases h44 : c = 44
      · subst h44
        rw [← sepS_44]
        simp [rd]
      · by_cases h13 : c = 13
        · subst h13
          rw [← sepS_13]
          simp [rd]
        · by_cases h10 : c = 10
          · subst h10
            simp [rd, sepS, sep]
          · have h34 : c = 34 := by
              unfold spc at hs
              simp [h44, h13, h10] at hs
              exact hs
            subst h34
            simp [rd, sepS, sep]
    · rw [List.takeWhile_cons_of_pos (by simp [hs]), List.dropWhile_cons_of_pos (by simp [hs])]
      have h : c ≠ 34 ∧ c ≠ 44 ∧ c ≠ 13 ∧ c ≠ 10 := by
        unfold spc at hs
        simp only [Bool.or_eq_true, beq_iff_eq, not_or] at hs
        exact ⟨hs.1.1.1, hs.1.1.2, hs.1.2, hs.2⟩
      have e : rd .p acc fd (c :: l) = rd .p acc (fd ++ [c]) l := by simp [rd, h.1, h.2.1, h.2.2.1, h.2.2.2]
      rw [e, rd_p acc l (fd ++ [c]), List.append_assoc]
      rfl
theorem rd_q (acc : Rw) : ∀ (l fd : Bs), rd .q acc fd l = match quo l with
    | none => ([], 210)
    | some x => sepS acc (fd ++ x.1) x.2
  | [], fd => rfl
  | c :: r, fd => by
    by_cases hc : c = 34
    · subst hc
      have e : rd .q acc fd (34 :: r) = rd .c acc fd r := by simp [rd]
      rw [e]
      cases r with
      | nil =>
        rw [rd_c _ _ _ (by simp)]
        simp [quo]
      | cons d r' =>
        by_cases hd : d = 34
        · subst hd
          have e2 : rd .c acc fd (34 :: r') = rd .q acc (fd ++ [34]) r' := by simp [rd]
          rw [e2, rd_q acc r' (fd ++ [34])]
          have e3 : quo (34 :: 34 :: r') = (quo r').map fun x => (34 :: x.1, x.2) := by simp [quo]
          rw [e3]
          cases quo r' with
          | none => rfl
          | some x => simp
        · rw [rd_c _ _ _ (by simp [hd])]
          simp [quo, hd]
    · have e : rd .q acc fd (c :: r) = rd .q acc (fd ++ [c]) r := by simp [rd, hc]
      rw [e, rd_q acc r (fd ++ [c])]
      rw [quo_ne hc]
      cases quo r with
      | none => rfl
      | some x => simp
theorem rd_fld (acc : Rw) (l : Bs) (h : acc ≠ [] ∨ l ≠ []) : rd .b acc [] l = match fld l with
    | none => ([], 210)
    | some x => sepS acc x.1 x.2 := by
  cases l with
  | nil =>
    have ha : acc ≠ [] := h.elim id fun h => absurd rfl h
    simp [rd, fld, sepS, sep, consR, ha]
  | cons c r =>
    by_cases hc : c = 34
    · subst hc
      have e : rd .b acc [] (34 :: r) = rd .q acc [] r := by simp [rd]
      rw [e, rd_q]
      simp [fld]
    · have e3 : fld (c :: r) = some ((c :: r).takeWhile (fun x => !spc x), (c :: r).dropWhile (fun x => !spc x)) := by simp [fld, hc]
      rw [e3]
      show _ = sepS acc _ _
      by_cases hs : spc c = true
      · rw [List.takeWhile_cons_of_neg (by simp [hs]), List.dropWhile_cons_of_neg (by simp [hs])]
        by_cases h44 : c = 44
        · subst h44
          rw [← sepS_44]
          simp [rd]
        · by_cases h13 : c = 13
          · subst h13
            rw [← sepS_13]
            simp [rd]
          · have h10 : c = 10 := by
              unfold spc at hs
              simp [h44, h13, hc] at hs
              exact hs
            subst h10
            simp [rd, sepS, sep]
      · have h : c ≠ 34 ∧ c ≠ 44 ∧ c ≠ 13 ∧ c ≠ 10 := by
          unfold spc at hs
          simp only [Bool.or_eq_true, beq_iff_eq, not_or] at hs
          exact ⟨hs.1.1.1, hs.1.1.2, hs.1.2, hs.2⟩
        have e : rd .b acc [] (c :: r) = rd .p acc [c] r := by simp [rd, h.1, h.2.1, h.2.2.1, h.2.2.2]
        rw [e, rd_p, List.takeWhile_cons_of_pos (by simp [hs]), List.dropWhile_cons_of_pos (by simp [hs])]
        rfl
theorem rd_row (l : Bs) (acc : Rw) (h : acc ≠ [] ∨ l ≠ []) : rd .b acc [] l = if (rowP acc l).2.1 = 0 then consR (rowP acc l).1 (rd .b [] [] (rowP acc l).2.2) else ([], (rowP acc l).2.1) := by
  induction hn : l.length using Nat.strongRecOn generalizing l acc with
  | _ n ih =>
    subst hn
    rw [rd_fld acc l h, rowP]
    split
    · rename_i hf
      split
      · simp
      · rename_i hf2; rw [hf] at hf2; cases hf2
    · rename_i x hf
      split
      · rename_i hf2; rw [hf] at hf2; cases hf2
      · rename_i y hf2
        obtain rfl : x = y := by rw [hf] at hf2; injection hf2
        unfold sepS
        by_cases he : (sep x.2).e ≠ 0
        · simp [he]
        · rw [if_neg he, if_neg he]
          by_cases hm : (sep x.2).more = true
          · rw [if_pos hm, dif_pos hm]
            have h1 := (sep_more hm).2
            have h2 := fld_len (f := x.1) (r := x.2) hf
            exact ih _ (by omega) _ _ (.inl (by simp)) rfl
          · rw [if_neg hm, dif_neg hm]
            simp
theorem rowP_err_nil (acc : Rw) (l : Bs) (h : (rowP acc l).2.1 ≠ 0) : (rowP acc l).1 = [] := by
  induction hn : l.length using Nat.strongRecOn generalizing l acc with
  | _ n ih =>
    subst hn
    rw [rowP] at h ⊢
    split
    · rfl
    · rename_i x hf
      split at h
      · rename_i hf2; rw [hf] at hf2; cases hf2
      · rename_i y hf2
        obtain rfl : x = y := by rw [hf] at hf2; injection hf2
        by_cases he : (sep x.2).e ≠ 0
        · rw [if_pos he]
        · rw [if_neg he] at h ⊢
          by_cases hm : (sep x.2).more = true
          · rw [dif_pos hm] at h ⊢
            have h1 := (sep_more hm).2
            have h2 := fld_len (f := x.1) (r := x.2) hf
            exact ih _ (by omega) _ _ h rfl
          · rw [dif_neg hm] at h
            exact absurd rfl h

/-! ### what is handed on, step by step -/
abbrev Evc := Rw × Int
def evc (l : Bs) : List Evc := (csvR l).1.map (fun r => (r, 0)) ++ if (csvR l).2 = 0 then [] else [([], (csvR l).2)]
theorem evc_nil : evc [] = [] := rfl
theorem evc_step {l : Bs} (h : l ≠ []) : evc l = ((rowP [] l).1, (rowP [] l).2.1) :: if (rowP [] l).2.1 = 0 then evc (rowP [] l).2.2 else [] := by
  have e : csvR l = _ := rd_row l [] (.inr h)
  unfold evc
  rw [e]
  by_cases h0 : (rowP [] l).2.1 = 0
  · rw [if_pos h0, if_pos h0, h0]
    rfl
  · rw [if_neg h0, if_neg h0, rowP_err_nil _ _ h0]
    simp [h0]
theorem evc_good {l : Bs} (h : ∀ x ∈ evc l, x.2 = 0) : (csvR l).2 = 0 ∧ evc l = (csvR l).1.map (fun r => (r, 0)) := by
  by_cases h0 : (csvR l).2 = 0
  · exact ⟨h0, by simp [evc, h0]⟩
  · exact absurd (h ([], (csvR l).2) (by simp [evc, h0])) h0
theorem evc_bad {l : Bs} {x : Evc} (h : x ∈ evc l) (he : x.2 ≠ 0) : x.2 = (csvR l).2 := by
  unfold evc at h
  rcases List.mem_append.1 h with h | h
  · obtain ⟨r, _, rfl⟩ := List.mem_map.1 h
    exact absurd rfl he
  · split at h
    · cases h
    · rw [List.mem_singleton.1 h]

/-! ### there and back -/
theorem quo_dbl : ∀ (f d : Bs), d.head? ≠ some 34 → quo (dbl f ++ 34 :: d) = some (f, d)
  | [], d, h => by
    cases d with
    | nil => simp [quo, dbl]
    | cons x d =>
      have hx : x ≠ 34 := fun e => h (by simp [e])
      simp [quo, dbl, hx]
  | c :: f, d, h => by
    have ih := quo_dbl f d h
    by_cases hc : c = 34
    · subst hc
      simp [dbl, quo, ih]
    · have e : dbl (c :: f) ++ 34 :: d = c :: (dbl f ++ 34 :: d) := by simp [dbl, hc]
      rw [e, quo_ne hc, ih]
      rfl
theorem rd_fmt (acc : Rw) (f d : Bs) (hd : d.head? = some 44 ∨ d.head? = some 13) : rd .b acc [] (fmtF f ++ d) = sepS acc f d := by
  have hne : fmtF f ++ d ≠ [] := by
    intro h
    have := (List.append_eq_nil_iff.1 h).2
    rw [this] at hd
    simp at hd
  rw [rd_fld acc _ (.inr hne)]
  have hf : fld (fmtF f ++ d) = some (f, d) := by
    unfold fmtF
    by_cases ha : f.any spc = true
    · rw [if_pos ha]
      have : fld (34 :: (dbl f ++ [34]) ++ d) = quo (dbl f ++ 34 :: d) := by simp [fld]
      rw [this, quo_dbl]
      rcases hd with h | h <;> rw [h] <;> decide
    · rw [if_neg ha]
      have hall : ∀ x ∈ f, spc x = false := by
        intro x hx
        cases hs : spc x with
        | false => rfl
        | true => exact absurd (List.any_eq_true.2 ⟨x, hx, hs⟩) ha
      have hdr : ∃ x r, d = x :: r ∧ spc x = true ∧ x ≠ 34 := by
        cases d with
        | nil => simp at hd
        | cons x r =>
          refine ⟨x, r, rfl, ?_⟩
          rcases hd with h | h
          · obtain rfl : x = 44 := by simpa using h
            decide
          · obtain rfl : x = 13 := by simpa using h
            decide
      obtain ⟨x, r, rfl, hx, hx34⟩ := hdr
      have ht : (f ++ x :: r).takeWhile (fun x => !spc x) = f := by
        rw [List.takeWhile_append_of_pos (by intro a ha; simp [hall a ha]), List.takeWhile_cons_of_neg (by simp [hx]), List.append_nil]
      have hw : (f ++ x :: r).dropWhile (fun x => !spc x) = x :: r := by
        rw [List.dropWhile_append_of_pos (by intro a ha; simp [hall a ha]), List.dropWhile_cons_of_neg (by simp [hx])]
      cases f with
      | nil =>
        have : fld ([] ++ x :: r) = some (([] ++ x :: r).takeWhile (fun x => !spc x), ([] ++ x :: r).dropWhile (fun x => !spc x)) := by simp [fld, hx34]
        rw [this, ht, hw]
      | cons c f =>
        have hc : c ≠ 34 := by
          intro e
          have := hall c (by simp)
          rw [e] at this
          exact absurd this (by decide)
        have : fld ((c :: f) ++ x :: r) = some (((c :: f) ++ x :: r).takeWhile (fun x => !spc x), ((c :: f) ++ x :: r).dropWhile (fun x => !spc x)) := by simp [fld, hc]
        rw [this, ht, hw]
  rw [hf]
theorem rd_rowT (d : Bs) : ∀ (r : List ByteArray) (acc : Rw) (f : ByteArray), rd .b acc [] (fmtF (lS f) ++ (r.flatMap (fun g => 44 :: fmtF (lS g)) ++ 13 :: 10 :: d)) = consR (acc ++ f :: r) (rd .b [] [] d)
  | [], acc, f => by
    rw [rd_fmt _ _ _ (.inr (by simp))]
    simp [sepS, sep, mk_lS]
  | g :: r, acc, f => by
    have e : (g :: r).flatMap (fun g => 44 :: fmtF (lS g)) ++ 13 :: 10 :: d = 44 :: (fmtF (lS g) ++ (r.flatMap (fun g => 44 :: fmtF (lS g)) ++ 13 :: 10 :: d)) := by simp
    rw [e, rd_fmt _ _ _ (.inl (by simp)), ← sepS_44, rd_rowT d r (acc ++ [mkS (lS f)]) g, mk_lS]
    simp
theorem csvR_rowsT : ∀ (rows : List Rw), (∀ r ∈ rows, r ≠ []) → csvR (rowsT rows) = (rows, 0)
  | [], _ => rfl
  | [] :: rows, h => absurd rfl (h [] (by simp))
  | (f :: r) :: rows, h => by
    have ih := csvR_rowsT rows fun r hr => h r (by simp [hr])
    have e : rowsT ((f :: r) :: rows) = fmtF (lS f) ++ (r.flatMap (fun g => 44 :: fmtF (lS g)) ++ 13 :: 10 :: rowsT rows) := by simp [rowsT, rowT]
    unfold csvR at ih ⊢
    rw [e, rd_rowT, ih]
    rfl
/-- rows that are read have a field at least -/
theorem rd_rows : ∀ (l : Bs) (st : Cst) (row : Rw) (fd : Bs), (st = .k → row ≠ []) → ∀ r ∈ (rd st row fd l).1, r ≠ []
  | [], st, row, fd, h, r, hr => by
    cases st <;> simp [rd] at hr
    case b =>
      split at hr
      · cases hr
      · rw [List.mem_singleton.1 hr]; simp
    all_goals (rw [hr]; simp)
  | c :: l, st, row, fd, h, r, hr => by
    cases st with
    | k =>
      by_cases hc : c = 10
      · simp only [rd, hc, if_true, consR, List.mem_cons] at hr
        rcases hr with rfl | hr
        · exact h rfl
        · exact rd_rows l _ _ _ (fun h => by cases h) r hr
      · simp [rd, hc] at hr
    | q =>
      by_cases hc : c = 34
      · have e : rd .q row fd (c :: l) = rd .c row fd l := by simp [rd, hc]
        rw [e] at hr
        exact rd_rows l _ _ _ (fun h => by cases h) r hr
      · have e : rd .q row fd (c :: l) = rd .q row (fd ++ [c]) l := by simp [rd, hc]
        rw [e] at hr
        exact rd_rows l _ _ _ (fun h => by cases h) r hr
    | b | p | c =>
      simp only [rd] at hr
      repeat' split at hr
      all_goals first
        | cases hr
        | exact rd_rows l _ _ _ (by intro h; first | exact absurd h (by decide) | simp) r hr
theorem csvR_rows (l : Bs) : ∀ r ∈ (csvR l).1, r ≠ [] := rd_rows l _ _ _ (fun h => by cases h)
theorem csvR_back {l : Bs} (h : (csvR l).2 = 0) : csvR (rowsT (csvR l).1) = csvR l := by
  rw [csvR_rowsT _ (csvR_rows l)]
  exact Prod.ext rfl h.symm
theorem csvR_empty {l : Bs} (h : (csvR l).2 = 0) : (csvR l).1 = [] ↔ l = [] := by
  refine ⟨fun h0 => ?_, fun h => by rw [h]; rfl⟩
  by_cases hl : l = []
  · exact hl
  · have e : csvR l = _ := rd_row l [] (.inr hl)
    rw [e] at h h0
    split at h0
    · cases h0
    · rename_i hn
      rw [if_neg hn] at h
      exact absurd h hn
/-- two texts, one behind the other -/
theorem rd_join (b : Bs) : ∀ (a : Bs) (st : Cst) (row : Rw) (fd : Bs), a.getLast? = some 10 → (rd st row fd a).2 = 0 → rd st row fd (a ++ b) = ((rd st row fd a).1 ++ (csvR b).1, (csvR b).2)
  | [], st, row, fd, h, _ => by simp at h
  | [c], st, row, fd, h, h0 => by
    obtain rfl : c = 10 := by simpa using h
    cases st <;> simp [rd, csvR, consR] at h0 ⊢
  | c :: d :: l, st, row, fd, h, h0 => by
    have hl : (d :: l).getLast? = some 10 := by rw [List.getLast?_cons_cons] at h; exact h
    have ih := fun st row fd h0 => rd_join b (d :: l) st row fd hl h0
    generalize d :: l = m at ih hl h0 ⊢
    rw [List.cons_append]
    cases st with
    | k =>
      by_cases hc : c = 10
      · have e : ∀ m, rd .k row fd (c :: m) = consR row (rd .b [] [] m) := fun m => by simp [rd, hc]
        rw [e] at h0 ⊢
        rw [e, ih _ _ _ h0]
        rfl
      · have e : ∀ m, rd .k row fd (c :: m) = ([], 211) := fun m => by simp [rd, hc]
        rw [e] at h0
        simp at h0
    | q =>
      by_cases hc : c = 34
      · have e : ∀ m, rd .q row fd (c :: m) = rd .c row fd m := fun m => by simp [rd, hc]
        rw [e] at h0 ⊢
        rw [e, ih _ _ _ h0]
      · have e : ∀ m, rd .q row fd (c :: m) = rd .q row (fd ++ [c]) m := fun m => by simp [rd, hc]
        rw [e] at h0 ⊢
        rw [e, ih _ _ _ h0]
    | b | p | c =>
      by_cases h34 : c = 34
      · subst h34
        simp [rd] at h0 ⊢
        try exact ih _ _ _ h0
      · by_cases h44 : c = 44
        · subst h44
          simp [rd] at h0 ⊢
          exact ih _ _ _ h0
        · by_cases h13 : c = 13
          · subst h13
            simp [rd] at h0 ⊢
            exact ih _ _ _ h0
          · by_cases h10 : c = 10
            · subst h10
              simp [rd] at h0
            · simp [rd, h34, h44, h13, h10] at h0 ⊢
              try exact ih _ _ _ h0
theorem csvR_join (a b : Bs) (h : a.getLast? = some 10) (h0 : (csvR a).2 = 0) : csvR (a ++ b) = ((csvR a).1 ++ (csvR b).1, (csvR b).2) := rd_join b a _ _ _ h h0
/-- there are few of them -/
theorem rd_few : ∀ (l : Bs) (st : Cst) (row : Rw) (fd : Bs), (rd st row fd l).1.length ≤ l.length + 1
  | [], st, row, fd => by
    cases st <;> simp [rd]
    split <;> simp
  | c :: l, st, row, fd => by
    have ih := fun st row fd => rd_few l st row fd
    cases st with
    | k =>
      by_cases hc : c = 10
      · have e : rd .k row fd (c :: l) = consR row (rd .b [] [] l) := by simp [rd, hc]
        rw [e]
        have := ih .b [] []
        simp [consR]
        omega
      · simp [rd, hc]
    | q =>
      by_cases hc : c = 34
      · have e : rd .q row fd (c :: l) = rd .c row fd l := by simp [rd, hc]
        rw [e]
        exact Nat.le_trans (ih _ _ _) (by simp)
      · have e : rd .q row fd (c :: l) = rd .q row (fd ++ [c]) l := by simp [rd, hc]
        rw [e]
        exact Nat.le_trans (ih _ _ _) (by simp)
    | b | p | c =>
      simp only [rd]
      repeat' split
      all_goals first
        | exact Nat.zero_le _
        | exact Nat.le_trans (ih _ _ _) (by simp)
end Go.Proofs.YthmgkjfohkadoaaGreatDoor
