/- lexer: a script, a line's end and another script behind it. No function of the program is named here. -/
import Derived.Test.YthmgkjfohkadoaaGreatDoorLxPure2
namespace Go.Proofs.YthmgkjfohkadoaaGreatDoor
open Go.RowKit
set_option linter.unusedVariables false

def tkSh (d : Nat) (t : Tk) : Tk := { t with p := t.p + d }
theorem txt_shift (d : Nat) : ∀ (n : Nat) (l : Bs), l.length = n → ∀ (p0 i : Nat) (acc : Bs), txtG (p0 + d) (i + d) acc l = (match txtG p0 i acc l with | .error e => .error (e.1 + d, e.2) | .ok x => .ok (x.1, x.2 + d)) := by
  intro n
  induction n using Nat.strongRecOn with
  | _ n ih =>
    intro l hn p0 i acc
    cases l with
    | nil => rw [txtG, txtG]
    | cons x r =>
      rw [txtG, txtG]
      split
      · simp only [Except.ok.injEq, Prod.mk.injEq, true_and]
        omega
      · split
        · rfl
        · split
          · split
            · rfl
            · rw [show i + d + 1 + (escR r).2 = i + 1 + (escR r).2 + d by omega]
              exact ih _ (by rw [← hn, List.length_drop, List.length_cons]; omega) _ rfl _ _ _
          · rw [show i + d + 1 = i + 1 + d by omega]
            exact ih _ (by rw [← hn, List.length_cons]; omega) _ rfl _ _ _
def exSh (d : Nat) : Except (Nat × Int) (Tk × Nat) → Except (Nat × Int) (Tk × Nat)
  | .error e => .error (e.1 + d, e.2)
  | .ok x => .ok (tkSh d x.1, x.2)
theorem tok_shift (a d : Nat) (l : Bs) : tokG (a + d) l = exSh d (tokG a l) := by
  cases l with
  | nil => rfl
  | cons c r =>
    simp only [tokG]
    split
    · rw [show a + d + 1 = a + 1 + d by omega, txt_shift d _ r rfl]
      split
      · rename_i e he
        split at he
        · injection he with he
          subst he
          simp only [*]
          rfl
        · cases he
      · rename_i b j hb
        split at hb
        · cases hb
        · rename_i y hy
          injection hb with hb
          have h1 : y.1 = b := congrArg Prod.fst hb
          have h2 : y.2 + d = j := congrArg Prod.snd hb
          rw [hy]
          show _ = exSh d (Except.ok (⟨4, y.1, 0, a⟩, y.2 - (a + 1 - 1)))
          subst h1 h2
          show Except.ok _ = Except.ok _
          congr 2
          omega
    · repeat' split
      all_goals rfl
noncomputable def toksF (a : Nat) (m : Bs) : List Tk × Option (Nat × Int) :=
  if m = [] then ([], none) else match tokG a m with
    | .error e => ([], some e)
    | .ok (t, n) => (t :: (toksG (a + n) (m.drop (max n 1))).1, (toksG (a + n) (m.drop (max n 1))).2)
theorem toks_F (p : Nat) (l : Bs) : toksG p l = toksF (p + gapC false l) (l.drop (gapC false l)) := by
  rw [toksG]
  unfold toksF
  by_cases h : l.drop (gapC false l) = []
  · rw [dif_pos h, if_pos h]
  · rw [dif_neg h, if_neg h]
    cases tokG (p + gapC false l) (l.drop (gapC false l)) <;> rfl
def rSh (d : Nat) (x : List Tk × Option (Nat × Int)) : List Tk × Option (Nat × Int) := (x.1.map (tkSh d), x.2.map fun e => (e.1 + d, e.2))
theorem toks_shift (d : Nat) : ∀ (n : Nat) (l : Bs), l.length = n → ∀ p, toksG (p + d) l = rSh d (toksG p l) := by
  intro n
  induction n using Nat.strongRecOn with
  | _ n ih =>
    intro l hn p
    rw [toks_F, toks_F]
    unfold toksF
    by_cases h : l.drop (gapC false l) = []
    · rw [if_pos h, if_pos h]
      rfl
    · rw [if_neg h, if_neg h]
      have h1 : 0 < (l.drop (gapC false l)).length := List.length_pos_iff.2 h
      rw [List.length_drop] at h1
      rw [show p + d + gapC false l = p + gapC false l + d by omega, tok_shift]
      cases ht : tokG (p + gapC false l) (l.drop (gapC false l)) with
      | error e => rfl
      | ok x =>
        obtain ⟨t, k⟩ := x
        have := ih ((l.drop (gapC false l)).drop (max k 1)).length (by simp only [List.length_drop]; omega) _ rfl (p + gapC false l + k)
        simp only [exSh]
        rw [show p + gapC false l + d + k = p + gapC false l + k + d by omega, this]
        rfl
theorem gap_app (b : Bs) : ∀ (u : Bs) (f : Bool), (gapC f u = u.length → gapC f (u ++ 10 :: b) = u.length + 1 + gapC false b) ∧ (gapC f u < u.length → gapC f (u ++ 10 :: b) = gapC f u)
  | [], f => by
    refine ⟨fun _ => ?_, fun h => absurd h (by simp)⟩
    cases f
    · rw [List.nil_append, gap_blank b (by decide)]
      simp
      omega
    · show gapC (10 != 10) b + 1 = _
      simp
      omega
  | x :: r, true => by
    obtain ⟨h1, h2⟩ := gap_app b r (x != 10)
    have e1 : gapC true (x :: r) = gapC (x != 10) r + 1 := rfl
    have e2 : gapC true (x :: r ++ 10 :: b) = gapC (x != 10) (r ++ 10 :: b) + 1 := rfl
    rw [e1, e2, List.length_cons]
    refine ⟨fun h => ?_, fun h => ?_⟩
    · rw [h1 (by omega)]
      omega
    · rw [h2 (by omega)]
  | x :: r, false => by
    obtain ⟨h1, h2⟩ := gap_app b r false
    obtain ⟨h3, h4⟩ := gap_app b r true
    have e1 : gapC false (x :: r) = if x = 47 ∧ r.head? = some 47 then gapC true r + 1 else if lxB x = true then gapC false r + 1 else 0 := rfl
    have e2 : gapC false (x :: r ++ 10 :: b) = if x = 47 ∧ (r ++ 10 :: b).head? = some 47 then gapC true (r ++ 10 :: b) + 1 else if lxB x = true then gapC false (r ++ 10 :: b) + 1 else 0 := rfl
    have e3 : (r ++ 10 :: b).head? = some 47 ↔ r.head? = some 47 := by
      cases r with
      | nil => simp
      | cons y r => simp
    rw [e1, e2, List.length_cons]
    by_cases hc : x = 47 ∧ r.head? = some 47
    · rw [if_pos hc, if_pos ⟨hc.1, e3.2 hc.2⟩]
      refine ⟨fun h => ?_, fun h => ?_⟩
      · rw [h3 (by omega)]
        omega
      · rw [h4 (by omega)]
    · have hc' : ¬ (x = 47 ∧ (r ++ 10 :: b).head? = some 47) := fun h => hc ⟨h.1, e3.1 h.2⟩
      rw [if_neg hc, if_neg hc']
      by_cases hb : lxB x = true
      · rw [if_pos hb, if_pos hb]
        refine ⟨fun h => ?_, fun h => ?_⟩
        · rw [h1 (by omega)]
          omega
        · rw [h2 (by omega)]
      · rw [if_neg hb, if_neg hb]
        exact ⟨fun h => by omega, fun h => rfl⟩
theorem esc_app (r v : Bs) (h : (escR r).2 ≠ 0) : escR (r ++ v) = escR r ∧ (escR r).2 ≤ r.length := by
  cases r with
  | nil => exact absurd rfl h
  | cons c r =>
    simp only [escR, List.cons_append, List.length_cons] at h ⊢
    split
    · exact ⟨rfl, by simp⟩
    · rename_i h1
      rw [if_neg h1] at h
      split
      · exact ⟨rfl, by simp⟩
      · rename_i h1
        rw [if_neg h1] at h
        split
        · exact ⟨rfl, by simp⟩
        · rename_i h1
          rw [if_neg h1] at h
          split
          · exact ⟨rfl, by simp⟩
          · rename_i h1
            rw [if_neg h1] at h
            split
            · rename_i h2
              rw [if_pos h2] at h
              match r, h with
              | [], h => exact absurd rfl h
              | [a], h => exact absurd rfl h
              | a :: b :: r, h =>
                refine ⟨rfl, ?_⟩
                simp only [List.length_cons]
                split <;> simp
            · rename_i h2
              rw [if_neg h2] at h
              exact absurd rfl h
theorem txt_app (v : Bs) : ∀ (n : Nat) (l : Bs), l.length = n → ∀ (p0 i : Nat) (acc : Bs) (x : Bs × Nat), txtG p0 i acc l = .ok x → txtG p0 i acc (l ++ v) = .ok x := by
  intro n
  induction n using Nat.strongRecOn with
  | _ n ih =>
    intro l hn p0 i acc x h
    cases l with
    | nil => rw [txtG] at h; cases h
    | cons c r =>
      rw [txtG] at h
      rw [List.cons_append, txtG]
      split at h
      · rename_i h1
        rw [if_pos h1]
        exact h
      · rename_i h1
        rw [if_neg h1]
        split at h
        · cases h
        · rename_i h2
          rw [if_neg h2]
          split at h
          · rename_i h3
            rw [if_pos h3]
            split at h
            · cases h
            · rename_i h4
              obtain ⟨e1, e2⟩ := esc_app r v h4
              rw [e1, if_neg h4, List.drop_append_of_le_length e2]
              exact ih _ (by rw [← hn, List.length_drop, List.length_cons]; omega) _ rfl _ _ _ _ h
          · rename_i h3
            rw [if_neg h3]
            exact ih _ (by rw [← hn, List.length_cons]; omega) _ rfl _ _ _ _ h
theorem tw_app (p : UInt8 → Bool) (h : p 10 = false) (b : Bs) : ∀ r : Bs, (r ++ 10 :: b).takeWhile p = r.takeWhile p
  | [] => by simp [h]
  | x :: r => by
    rw [List.cons_append, List.takeWhile_cons, List.takeWhile_cons, tw_app p h b r]
theorem head_app (r b : Bs) (c : UInt8) (hc : c ≠ 10) : (r ++ 10 :: b).head? = some c ↔ r.head? = some c := by
  cases r with
  | nil => simp [eq_comm, hc]
  | cons y r => simp
theorem headD_app (r b : Bs) : (r ++ 10 :: b).head?.map lxD = some true ↔ r.head?.map lxD = some true := by
  cases r with
  | nil =>
    simp
    decide
  | cons y r => simp
theorem tok_app (a : Nat) (u b : Bs) (x : Tk × Nat) (h : tokG a u = .ok x) : tokG a (u ++ 10 :: b) = .ok x := by
  cases u with
  | nil => simp [tokG] at h
  | cons c r =>
    rw [List.cons_append]
    simp only [tokG] at h ⊢
    rw [tw_app lxW (by decide), tw_app lxN (by decide)]
    split at h
    · rename_i h1
      rw [if_pos h1]
      split at h
      · cases h
      · rename_i t i ht
        rw [txt_app _ _ _ rfl _ _ _ _ ht]
        exact h
    · rename_i h1
      rw [if_neg h1]
      split at h
      · rename_i h2
        rw [if_pos h2]
        exact h
      · rename_i h2
        rw [if_neg h2]
        by_cases h3 : lxD c = true ∨ (c = 45 ∧ (r.head?.map lxD) = some true)
        · rw [if_pos h3] at h
          rw [if_pos (h3.imp id fun ⟨h4, h5⟩ => ⟨h4, (headD_app r b).2 h5⟩)]
          exact h
        · rw [if_neg h3] at h
          rw [if_neg (fun h4 => h3 (h4.imp id fun ⟨h4, h5⟩ => ⟨h4, (headD_app r b).1 h5⟩))]
          by_cases h4 : c = 45 ∧ r.head? = some 62
          · rw [if_pos h4] at h
            rw [if_pos ⟨h4.1, (head_app r b 62 (by decide)).2 h4.2⟩]
            exact h
          · rw [if_neg h4] at h
            rw [if_neg (fun h5 => h4 ⟨h5.1, (head_app r b 62 (by decide)).1 h5.2⟩)]
            exact h
theorem toks_app (b : Bs) : ∀ (n : Nat) (u : Bs), u.length = n → ∀ p X, toksG p u = (X, none) → toksG p (u ++ 10 :: b) = (X ++ (toksG (p + u.length + 1) b).1, (toksG (p + u.length + 1) b).2) := by
  intro n
  induction n using Nat.strongRecOn with
  | _ n ih =>
    intro u hn p X h
    have hg := gapC_le false u
    obtain ⟨g1, g2⟩ := gap_app b u false
    by_cases hd : gapC false u = u.length
    · rw [toks_F, hd, List.drop_length] at h
      have hX : X = [] := by
        have := congrArg Prod.fst h
        simpa [toksF] using this.symm
      subst hX
      rw [toks_F, g1 hd, toks_F (p + u.length + 1), List.nil_append]
      have e1 : (u ++ 10 :: b).drop (u.length + 1 + gapC false b) = b.drop (gapC false b) := by
        rw [show u ++ 10 :: b = (u ++ [10]) ++ b by simp, ← List.drop_drop, show u.length + 1 = (u ++ [10]).length by simp, List.drop_left]
      rw [e1, show p + (u.length + 1 + gapC false b) = p + u.length + 1 + gapC false b by omega]
    · have hlt : gapC false u < u.length := by omega
      rw [toks_F] at h
      rw [toks_F, g2 hlt, List.drop_append_of_le_length hg]
      obtain ⟨m, hm⟩ : ∃ m, m = u.drop (gapC false u) := ⟨_, rfl⟩
      have hml : m.length = u.length - gapC false u := by rw [hm, List.length_drop]
      rw [← hm] at h ⊢
      have hm0 : m ≠ [] := by
        intro e
        rw [e] at hml
        simp at hml
        omega
      unfold toksF at h ⊢
      rw [if_neg hm0] at h
      rw [if_neg (by simp)]
      cases ht : tokG (p + gapC false u) m with
      | error e =>
        rw [ht] at h
        simp at h
      | ok x =>
        obtain ⟨t, k⟩ := x
        rw [ht] at h
        rw [tok_app _ _ _ _ ht]
        simp only [Prod.mk.injEq] at h
        obtain ⟨h1, h2⟩ := h
        obtain ⟨k1, k2, -⟩ := tok_len ht
        rw [Nat.max_eq_left k1] at h1 h2
        dsimp only
        rw [Nat.max_eq_left k1, List.drop_append_of_le_length k2]
        have := ih (m.drop k).length (by rw [List.length_drop]; omega) (m.drop k) rfl (p + gapC false u + k) (toksG (p + gapC false u + k) (m.drop k)).1 (Prod.ext rfl h2)
        rw [this, ← h1, List.length_drop, hml, show p + gapC false u + k + (u.length - gapC false u - k) + 1 = p + u.length + 1 by omega]
        rfl
/-- the tokens of both, or the second one's error -/
theorem lx_join {a b : Bs} (ha : (lxR a).2 = none) (hal : a.length ≤ 8000000) (hbl : b.length ≤ 8000000) :
    lxR (a ++ 10 :: b) = ((lxR a).1 ++ (lxR b).1.map (tkSh (a.length + 1)), (lxR b).2.map fun e => (e.1 + (a.length + 1), e.2)) := by
  have e1 : lxR a = toksG 0 a := by unfold lxR; rw [if_neg (by omega)]
  have e2 : lxR b = toksG 0 b := by unfold lxR; rw [if_neg (by omega)]
  have e3 : lxR (a ++ 10 :: b) = toksG 0 (a ++ 10 :: b) := by unfold lxR; rw [if_neg (by rw [List.length_append, List.length_cons]; omega)]
  rw [e1] at ha
  have h := toks_app b _ a rfl 0 (toksG 0 a).1 (Prod.ext rfl ha)
  have hs := toks_shift (a.length + 1) _ b rfl 0
  rw [show 0 + a.length + 1 = 0 + (a.length + 1) by omega, hs] at h
  rw [e3, h, e1, e2]
  rfl
end Go.Proofs.YthmgkjfohkadoaaGreatDoor
