/- What a spool is, as lists: the safe bytes, the writes behind them, and what a loss of power leaves. No program is named here. -/
import Derived.Test.YtkpmnmgnfgfhaaaSep
namespace Go.Proofs.Ytkpmnmgnfgfhaaa
set_option linter.unusedVariables false

/-- all bytes that are seen -/
def seenOf (b : List Nat) (ws : List (List Nat)) : List Nat := b ++ ws.flatten
/-- where write i begins -/
def startOf (b : List Nat) (ws : List (List Nat)) (i : Nat) : Nat := b.length + (ws.take i).flatten.length
/-- where the writes end -/
def endsOf (b : List Nat) (ws : List (List Nat)) : List Nat := (List.range ws.length).map fun i => startOf b ws (i + 1)
/-- write i -/
def nthW (ws : List (List Nat)) (i : Nat) : List Nat := ws.getD i []
/-- is write i kept? -/
def nthK (ks : List Bool) (i : Nat) : Bool := ks.getD i false
/-- what a loss of power leaves: from left on, behind which gap bytes are lost so far -/
def aft (left : List Nat) (gap : Nat) : List (List Nat) → List Bool → List Nat
  | [], _ => left
  | x :: ws, ks => if nthK ks 0 = true then aft (left ++ List.replicate gap 0 ++ x) 0 ws ks.tail else aft left (gap + x.length) ws ks.tail

theorem nthW_lt {ws : List (List Nat)} {i : Nat} (h : i < ws.length) : nthW ws i = ws[i] := by simp [nthW, List.getD_eq_getElem?_getD, List.getElem?_eq_getElem h]
theorem dropW {ws : List (List Nat)} {i : Nat} (h : i < ws.length) : ws.drop i = nthW ws i :: ws.drop (i + 1) := by rw [List.drop_eq_getElem_cons h, nthW_lt h]
theorem takeW {ws : List (List Nat)} {i : Nat} (h : i < ws.length) : ws.take (i + 1) = ws.take i ++ [nthW ws i] := by rw [List.take_succ_eq_append_getElem h, nthW_lt h]
theorem startOf_zero (b : List Nat) (ws : List (List Nat)) : startOf b ws 0 = b.length := by simp [startOf]
theorem startOf_succ {b : List Nat} {ws : List (List Nat)} {i : Nat} (h : i < ws.length) : startOf b ws (i + 1) = startOf b ws i + (nthW ws i).length := by
  unfold startOf
  rw [takeW h]
  simp
  omega
theorem startOf_le (b : List Nat) (ws : List (List Nat)) (i : Nat) : startOf b ws i ≤ (seenOf b ws).length := by
  unfold startOf seenOf
  have := congrArg (fun l : List (List Nat) => l.flatten.length) (List.take_append_drop i ws)
  simp only [List.flatten_append, List.length_append] at this ⊢
  omega
theorem startOf_all (b : List Nat) (ws : List (List Nat)) : startOf b ws ws.length = (seenOf b ws).length := by
  unfold startOf seenOf
  rw [List.take_length, List.length_append]
theorem endsOf_length (b : List Nat) (ws : List (List Nat)) : (endsOf b ws).length = ws.length := by simp [endsOf]
theorem endsOf_get {b : List Nat} {ws : List (List Nat)} {i : Nat} (h : i < (endsOf b ws).length) : (endsOf b ws)[i] = startOf b ws (i + 1) := by simp [endsOf]
theorem endsOf_snoc (b : List Nat) (ws : List (List Nat)) (x : List Nat) : endsOf b (ws ++ [x]) = endsOf b ws ++ [(seenOf b (ws ++ [x])).length] := by
  unfold endsOf
  rw [List.length_append, List.length_singleton, List.range_succ, List.map_append]
  congr 1
  · refine List.map_congr_left fun i hi => ?_
    have := List.mem_range.1 hi
    unfold startOf
    rw [List.take_append_of_le_length (by omega)]
  · simp only [List.map_cons, List.map_nil]
    rw [← startOf_all, List.length_append, List.length_singleton]
theorem seenOf_snoc (b : List Nat) (ws : List (List Nat)) (x : List Nat) : seenOf b (ws ++ [x]) = seenOf b ws ++ x := by simp [seenOf]
theorem seenOf_cut {b : List Nat} {ws : List (List Nat)} {i : Nat} (h : i < ws.length) : ((seenOf b ws).take (startOf b ws (i + 1))).drop (startOf b ws i) = nthW ws i := by
  have e : seenOf b ws = (b ++ (ws.take i).flatten) ++ nthW ws i ++ (ws.drop (i + 1)).flatten := by
    unfold seenOf
    conv => lhs; rw [← List.take_append_drop i ws, dropW h]
    simp
  have h1 : startOf b ws i = (b ++ (ws.take i).flatten).length := by simp [startOf]
  have h2 : startOf b ws (i + 1) = ((b ++ (ws.take i).flatten) ++ nthW ws i).length := by
    rw [startOf_succ h, h1, List.length_append (bs := nthW ws i)]
  rw [e, h2, List.take_left, h1, List.drop_left]
theorem nthK_drop (ks : List Bool) (i : Nat) : nthK (ks.drop i) 0 = nthK ks i := by simp [nthK, List.getD_eq_getElem?_getD]
theorem nthK_lt {ks : List Bool} {i : Nat} (h : i < ks.length) : nthK ks i = ks[i] := by simp [nthK, List.getD_eq_getElem?_getD, List.getElem?_eq_getElem h]
theorem nthK_ge {ks : List Bool} {i : Nat} (h : ks.length ≤ i) : nthK ks i = false := by simp [nthK, List.getD_eq_getElem?_getD, List.getElem?_eq_none h]
theorem tail_drop' (ks : List Bool) (i : Nat) : (ks.drop i).tail = ks.drop (i + 1) := by simp
theorem aft_yes {left : List Nat} {gap : Nat} {ws : List (List Nat)} {ks : List Bool} {i : Nat} (h : i < ws.length) (hk : nthK ks i = true) : aft left gap (ws.drop i) (ks.drop i) = aft (left ++ List.replicate gap 0 ++ nthW ws i) 0 (ws.drop (i + 1)) (ks.drop (i + 1)) := by
  rw [dropW h, aft, nthK_drop, hk, if_pos rfl, tail_drop']
theorem aft_no {left : List Nat} {gap : Nat} {ws : List (List Nat)} {ks : List Bool} {i : Nat} (h : i < ws.length) (hk : nthK ks i = false) : aft left gap (ws.drop i) (ks.drop i) = aft left (gap + (nthW ws i).length) (ws.drop (i + 1)) (ks.drop (i + 1)) := by
  rw [dropW h, aft, nthK_drop, hk, if_neg (by simp), tail_drop']
theorem aft_end {left : List Nat} {gap : Nat} {ws : List (List Nat)} {ks : List Bool} {i : Nat} (h : ws.length ≤ i) : aft left gap (ws.drop i) (ks.drop i) = left := by
  rw [List.drop_eq_nil_of_le h, aft]
theorem nthW_bytes {ws : List (List Nat)} (h : ∀ x ∈ ws, IsBytes x) (i : Nat) : IsBytes (nthW ws i) := by
  rcases Nat.lt_or_ge i ws.length with hi | hi
  · rw [nthW_lt hi]; exact h _ (List.getElem_mem hi)
  · simp [nthW, List.getD_eq_getElem?_getD, List.getElem?_eq_none hi, IsBytes.nil]
theorem seenOf_bytes {b : List Nat} {ws : List (List Nat)} (h : IsBytes (seenOf b ws)) : IsBytes b ∧ ∀ x ∈ ws, IsBytes x :=
  ⟨fun y hy => h y (List.mem_append.2 (.inl hy)), fun x hx y hy => h y (List.mem_append.2 (.inr (List.mem_flatten.2 ⟨x, hx, hy⟩)))⟩
/-! ### what is left, for the laws that name no answer of the document -/
theorem aft_prefix (ws : List (List Nat)) : ∀ (left : List Nat) (gap : Nat) (ks : List Bool), ∃ t, aft left gap ws ks = left ++ t := by
  induction ws with
  | nil => exact fun left gap ks => ⟨[], by simp [aft]⟩
  | cons x ws ih =>
    intro left gap ks
    rw [aft]
    split
    · obtain ⟨t, ht⟩ := ih (left ++ List.replicate gap 0 ++ x) 0 ks.tail
      exact ⟨List.replicate gap 0 ++ x ++ t, by rw [ht]; simp [List.append_assoc]⟩
    · exact ih left _ _
theorem aft_none (ws : List (List Nat)) : ∀ (left : List Nat) (gap : Nat) (ks : List Bool), (∀ i, nthK ks i = false) → aft left gap ws ks = left := by
  induction ws with
  | nil => exact fun left gap ks _ => by rw [aft]
  | cons x ws ih =>
    intro left gap ks h
    rw [aft, h 0, if_neg (by simp)]
    refine ih _ _ _ fun i => ?_
    have := h (i + 1)
    simpa [nthK, List.getD_eq_getElem?_getD] using this
theorem aft_all (ws : List (List Nat)) : ∀ (left : List Nat) (ks : List Bool), (∀ i, i < ws.length → nthK ks i = true) → aft left 0 ws ks = left ++ ws.flatten := by
  induction ws with
  | nil => exact fun left ks _ => by simp [aft]
  | cons x ws ih =>
    intro left ks h
    rw [aft, h 0 (by simp), if_pos rfl, ih _ _ fun i hi => ?_]
    · simp
    · have := h (i + 1) (by simpa using hi)
      simpa [nthK, List.getD_eq_getElem?_getD] using this
/-- every byte that is left is the one that was seen there, or 0 -/
theorem aft_bytes (ws : List (List Nat)) : ∀ (left seen : List Nat) (gap : Nat) (ks : List Bool), (∀ i, i < left.length → nth left i = nth seen i ∨ nth left i = 0) → left.length + gap = seen.length →
    (aft left gap ws ks).length ≤ seen.length + ws.flatten.length ∧ ∀ i, i < (aft left gap ws ks).length → nth (aft left gap ws ks) i = nth (seen ++ ws.flatten) i ∨ nth (aft left gap ws ks) i = 0 := by
  induction ws with
  | nil =>
    intro left seen gap ks h hl
    simp only [aft, List.flatten_nil, List.append_nil, List.length_nil]
    exact ⟨by omega, h⟩
  | cons x ws ih =>
    intro left seen gap ks h hl
    have ex : seen ++ (x :: ws).flatten = (seen ++ x) ++ ws.flatten := by simp
    have el : seen.length + (x :: ws).flatten.length = (seen ++ x).length + ws.flatten.length := by simp; omega
    rw [aft, ex, el]
    have ap (a c : List Nat) (i : Nat) : nth (a ++ c) i = if i < a.length then nth a i else nth c (i - a.length) := by
      unfold nth
      rw [List.getD_eq_getElem?_getD, List.getD_eq_getElem?_getD, List.getD_eq_getElem?_getD, List.getElem?_append]
      split <;> rfl
    split
    · refine ih _ _ _ _ (fun i hi => ?_) (by simp; omega)
      rw [List.append_assoc, ap left, ap seen]
      by_cases h1 : i < left.length
      · rw [if_pos h1, if_pos (by omega)]
        exact h i h1
      · rw [if_neg h1, ap (List.replicate gap 0), List.length_replicate]
        by_cases h2 : i - left.length < gap
        · rw [if_pos h2]
          right
          unfold nth
          simp [List.getD_eq_getElem?_getD, h2]
        · rw [if_neg h2, if_neg (by omega)]
          left
          congr 1
          omega
    · refine ih _ _ _ _ (fun i hi => ?_) (by simp; omega)
      rw [ap seen, if_pos (by omega)]
      exact h i hi
theorem aft_len (b : List Nat) (ws : List (List Nat)) (ks : List Bool) : (aft b 0 ws ks).length ≤ (seenOf b ws).length := by
  have := (aft_bytes ws b b 0 ks (fun i _ => .inl rfl) (by simp)).1
  unfold seenOf
  rw [List.length_append]
  exact this

end Go.Proofs.Ytkpmnmgnfgfhaaa
