/- lexer: the events of a script, step by step; a script behind another. No function of the program is named here. -/
import Derived.Test.YthmgkjfohkadoaaGreatDoorLxPure
namespace Go.Proofs.YthmgkjfohkadoaaGreatDoor
open Go.RowKit
set_option linter.unusedVariables false

theorem txt_len : ∀ (n : Nat) (l : Bs), l.length = n → ∀ (p0 i : Nat) (acc b : Bs) (j : Nat), txtG p0 i acc l = .ok (b, j) → i < j ∧ j ≤ i + l.length := by
  intro n
  induction n using Nat.strongRecOn with
  | _ n ih =>
    intro l hn p0 i acc b j h
    cases l with
    | nil => rw [txtG] at h; cases h
    | cons x r =>
      rw [txtG] at h
      split at h
      · injection h with h
        injection h with h1 h2
        rw [← h2, List.length_cons]
        omega
      · split at h
        · cases h
        · split at h
          · split at h
            · cases h
            · have h2 := ih _ (by rw [← hn, List.length_drop, List.length_cons]; omega) _ rfl _ _ _ _ _ h
              rw [List.length_drop] at h2
              rw [List.length_cons]
              by_cases hk : (escR r).2 ≤ r.length
              · omega
              · rw [List.drop_of_length_le (by omega), txtG] at h
                cases h
          · have h2 := ih _ (by rw [← hn, List.length_cons]; omega) _ rfl _ _ _ _ _ h
            rw [List.length_cons]
            omega
theorem txt_bad : ∀ (n : Nat) (l : Bs), l.length = n → ∀ (p0 i : Nat) (acc : Bs) (e : Nat × Int), txtG p0 i acc l = .error e → e.2 = 240 ∨ e.2 = 241 ∨ e.2 = 242 := by
  intro n
  induction n using Nat.strongRecOn with
  | _ n ih =>
    intro l hn p0 i acc e h
    cases l with
    | nil =>
      rw [txtG] at h
      injection h with h
      exact .inr (.inl (by rw [← h]))
    | cons x r =>
      rw [txtG] at h
      split at h
      · cases h
      · split at h
        · injection h with h
          exact .inl (by rw [← h])
        · split at h
          · split at h
            · injection h with h
              exact .inr (.inr (by rw [← h]))
            · exact ih _ (by rw [← hn, List.length_drop, List.length_cons]; omega) _ rfl _ _ _ _ h
          · exact ih _ (by rw [← hn, List.length_cons]; omega) _ rfl _ _ _ _ h
theorem tw_le (p : UInt8 → Bool) (r : Bs) : (r.takeWhile p).length ≤ r.length := by
  have h := congrArg List.length (List.takeWhile_append_dropWhile (p := p) (l := r))
  rw [List.length_append] at h
  omega
theorem tok_len {at_ n : Nat} {l : Bs} {t : Tk} (h : tokG at_ l = .ok (t, n)) : 1 ≤ n ∧ n ≤ l.length ∧ t.p = at_ := by
  cases l with
  | nil => simp [tokG] at h
  | cons c r =>
    have h1 := tw_le lxW r
    have h2 := tw_le lxN r
    rw [List.length_cons]
    simp only [tokG] at h
    split at h
    · split at h
      · cases h
      · rename_i b j hj
        injection h with h
        injection h with h3 h4
        have h5 := txt_len _ _ rfl _ _ _ _ _ hj
        subst h3
        exact ⟨by omega, by omega, rfl⟩
    · split at h
      · injection h with h
        injection h with h3 h4
        subst h3
        exact ⟨by omega, by omega, rfl⟩
      · split at h
        · split at h
          · split at h
            · injection h with h
              injection h with h3 h4
              subst h3
              exact ⟨by omega, by omega, rfl⟩
            · cases h
          · split at h
            · injection h with h
              injection h with h3 h4
              subst h3
              exact ⟨by omega, by omega, rfl⟩
            · cases h
        · split at h
          · rename_i hm
            injection h with h
            injection h with h3 h4
            subst h3
            have : 1 ≤ r.length := by
              cases r with
              | nil => simp at hm
              | cons y r => simp
            exact ⟨by omega, by omega, rfl⟩
          · split at h
            · injection h with h
              injection h with h3 h4
              subst h3
              exact ⟨by omega, by omega, rfl⟩
            · cases h
theorem tok_bad {at_ : Nat} {l : Bs} {e : Nat × Int} (h : tokG at_ l = .error e) : e.2 ≠ 0 := by
  cases l with
  | nil =>
    simp only [tokG] at h
    injection h with h
    rw [← h]
    show ¬ (240 : Int) = 0
    decide
  | cons c r =>
    simp only [tokG] at h
    split at h
    · split at h
      · rename_i e' hj
        injection h with h
        have h5 := txt_bad _ _ rfl _ _ _ _ hj
        subst h
        omega
      · cases h
    · split at h
      · cases h
      · split at h
        · split at h
          · split at h
            · cases h
            · rename_i hn
              injection h with h
              rw [← h]
              exact hn
          · split at h
            · cases h
            · rename_i hn
              injection h with h
              rw [← h]
              exact hn
        · split at h
          · cases h
          · split at h
            · cases h
            · injection h with h
              rw [← h]
              show ¬ (240 : Int) = 0
              decide

/-- what the sequence yields: a token and OK, at last the error's place and the error -/
abbrev LEv := Tk × Int
def tk0 (a : Nat) : Tk := ⟨0, [], 0, a⟩
def evT (r : List Tk × Option (Nat × Int)) : List LEv := r.1.map (fun t => (t, 0)) ++ (match r.2 with | none => [] | some e => [(tk0 e.1, e.2)])
/-- a script's tokens and error -/
noncomputable def lxR (l : Bs) : List Tk × Option (Nat × Int) := if 16777216 < l.length then ([], some (0, 1)) else toksG 0 l
/-- where the next token begins -/
def nxt (l : Bs) (p : Nat) : Nat := p + gapC false (l.drop p)
theorem nxt_le {l : Bs} {p : Nat} (h : p ≤ l.length) : p ≤ nxt l p ∧ nxt l p ≤ l.length := by
  have := gapC_le false (l.drop p)
  rw [List.length_drop] at this
  unfold nxt
  omega
theorem nxt_drop (l : Bs) (p : Nat) : (l.drop p).drop (gapC false (l.drop p)) = l.drop (nxt l p) := by
  rw [List.drop_drop]
  rfl
theorem toks_end {l : Bs} {p : Nat} (h : l.length ≤ nxt l p) : toksG p (l.drop p) = ([], none) := by
  rw [toksG, dif_pos (by rw [nxt_drop]; exact List.drop_of_length_le h)]
theorem toks_bad {l : Bs} {p : Nat} {e : Nat × Int} (h : nxt l p < l.length) (ht : tokG (nxt l p) (l.drop (nxt l p)) = .error e) : toksG p (l.drop p) = ([], some e) := by
  rw [toksG, dif_neg (by rw [nxt_drop]; intro h2; have := List.drop_eq_nil_iff.1 h2; omega), nxt_drop]
  show (match tokG (nxt l p) _ with | .error e => _ | .ok (t, n) => _) = _
  rw [ht]
theorem toks_ok {l : Bs} {p n : Nat} {t : Tk} (h : nxt l p < l.length) (ht : tokG (nxt l p) (l.drop (nxt l p)) = .ok (t, n)) :
    toksG p (l.drop p) = (t :: (toksG (nxt l p + n) (l.drop (nxt l p + n))).1, (toksG (nxt l p + n) (l.drop (nxt l p + n))).2) := by
  rw [toksG, dif_neg (by rw [nxt_drop]; intro h2; have := List.drop_eq_nil_iff.1 h2; omega), nxt_drop]
  show (match tokG (nxt l p) _ with | .error e => _ | .ok (t, n) => _) = _
  rw [ht]
  have h1 := (tok_len ht).1
  simp only [List.drop_drop, Nat.max_eq_left h1]
  rfl
theorem ev_end {l : Bs} {p : Nat} (h : l.length ≤ nxt l p) : evT (toksG p (l.drop p)) = [] := by rw [toks_end h]; rfl
theorem ev_bad {l : Bs} {p : Nat} {e : Nat × Int} (h : nxt l p < l.length) (ht : tokG (nxt l p) (l.drop (nxt l p)) = .error e) : evT (toksG p (l.drop p)) = [(tk0 e.1, e.2)] := by rw [toks_bad h ht]; rfl
theorem ev_ok {l : Bs} {p n : Nat} {t : Tk} (h : nxt l p < l.length) (ht : tokG (nxt l p) (l.drop (nxt l p)) = .ok (t, n)) :
    evT (toksG p (l.drop p)) = (t, 0) :: evT (toksG (nxt l p + n) (l.drop (nxt l p + n))) := by rw [toks_ok h ht]; rfl
theorem toks_few : ∀ (n : Nat) (l : Bs), l.length = n → ∀ p, (toksG p l).1.length ≤ l.length := by
  intro n
  induction n using Nat.strongRecOn with
  | _ n ih =>
    intro l hn p
    rw [toksG]
    split
    · simp
    · rename_i h
      have h1 : 0 < (l.drop (gapC false l)).length := List.length_pos_iff.2 h
      rw [List.length_drop] at h1
      split
      · simp
      · rename_i t k hk
        have h2 := ih ((l.drop (gapC false l)).drop (max k 1)).length (by simp only [List.length_drop]; omega) _ rfl (p + gapC false l + k)
        simp only [List.length_drop, List.length_cons] at h2 ⊢
        omega
theorem toks_err : ∀ (n : Nat) (l : Bs), l.length = n → ∀ p e, (toksG p l).2 = some e → e.2 ≠ 0 := by
  intro n
  induction n using Nat.strongRecOn with
  | _ n ih =>
    intro l hn p e
    rw [toksG]
    split
    · intro h; cases h
    · rename_i h
      have h1 : 0 < (l.drop (gapC false l)).length := List.length_pos_iff.2 h
      rw [List.length_drop] at h1
      split
      · rename_i e' hk
        intro h2
        injection h2 with h2
        subst h2
        exact tok_bad hk
      · rename_i t k hk
        exact ih ((l.drop (gapC false l)).drop (max k 1)).length (by simp only [List.length_drop]; omega) _ rfl (p + gapC false l + k) e
theorem lxR_few (l : Bs) : (lxR l).1.length ≤ 16777216 := by
  unfold lxR
  split
  · exact Nat.zero_le _
  · have := toks_few _ l rfl 0
    omega
theorem lxR_err {l : Bs} {e : Nat × Int} (h : (lxR l).2 = some e) : e.2 ≠ 0 := by
  unfold lxR at h
  split at h
  · injection h with h
    rw [← h]
    decide
  · exact toks_err _ l rfl 0 e h
theorem ev_few (r : List Tk × Option (Nat × Int)) : (evT r).length ≤ r.1.length + 1 := by
  unfold evT
  rw [List.length_append, List.length_map]
  split <;> simp
/-- an event with an error is the last -/
theorem ev_stop {r : List Tk × Option (Nat × Int)} {pre post : List LEv} {x : LEv} (h : evT r = pre ++ x :: post) (hx : x.2 ≠ 0) : r.2 = some (x.1.p, x.2) ∧ r.1.length = pre.length ∧ r.1.map (fun t => (t, 0)) = pre ∧ x.1 = tk0 x.1.p := by
  unfold evT at h
  cases hr : r.2 with
  | none =>
    rw [hr] at h
    simp only [List.append_nil] at h
    have : x ∈ r.1.map (fun t => (t, (0 : Int))) := by rw [h]; simp
    obtain ⟨t, -, rfl⟩ := List.mem_map.1 this
    exact absurd rfl hx
  | some e =>
    rw [hr] at h
    simp only at h
    have hl := congrArg List.length h
    simp only [List.length_append, List.length_map, List.length_cons, List.length_nil] at hl
    by_cases hp : r.1.length = pre.length
    · have h2 := List.append_inj h (by rw [List.length_map, hp])
      obtain ⟨h3, h4⟩ := h2
      injection h4 with h4 h5
      subst h4
      exact ⟨rfl, hp, h3, rfl⟩
    · have hlt : pre.length < r.1.length := by omega
      have h3 : (r.1.map (fun t => (t, (0 : Int))) ++ [(tk0 e.1, e.2)])[pre.length]? = some x := by rw [h]; simp
      rw [List.getElem?_append_left (by rw [List.length_map]; exact hlt)] at h3
      have : x ∈ r.1.map (fun t => (t, (0 : Int))) := List.mem_of_getElem? h3
      obtain ⟨t, -, rfl⟩ := List.mem_map.1 this
      exact absurd rfl hx
/-- all came and none was an error -/
theorem ev_all {r : List Tk × Option (Nat × Int)} (h : ∀ x ∈ evT r, x.2 = 0) (he : ∀ e, r.2 = some e → e.2 ≠ 0) : r.2 = none ∧ evT r = r.1.map fun t => (t, 0) := by
  cases hr : r.2 with
  | none =>
    refine ⟨rfl, ?_⟩
    unfold evT
    rw [hr]
    simp
  | some e =>
    have := h (tk0 e.1, e.2) (by unfold evT; rw [hr]; simp)
    exact absurd this (he e hr)
end Go.Proofs.YthmgkjfohkadoaaGreatDoor
