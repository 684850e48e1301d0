/- lexer: the places of a script's tokens and of its error lie in it. No function of the program is named but All. -/
import Derived.Test.YtcfobagcdgnfoaaGreatDoorLxS
namespace Go.Proofs.YtcfobagcdgnfoaaGreatDoor
open Go.RowKit
set_option linter.unusedVariables false

theorem txt_at : ∀ (n : Nat) (l : Bs), l.length = n → ∀ (p0 i : Nat) (acc : Bs) (e : Nat × Int), txtG p0 i acc l = .error e → e.1 = p0 ∨ e.1 ≤ i + l.length := by
  intro n
  induction n using Nat.strongRecOn with
  | _ n ih =>
    intro l hn p0 i acc e h
    cases l with
    | nil =>
      rw [txtG] at h
      injection h with h
      exact .inl (by rw [← h])
    | cons x r =>
      rw [List.length_cons]
      rw [txtG] at h
      split at h
      · cases h
      · split at h
        · injection h with h
          exact .inr (by rw [← h]; show i ≤ _; omega)
        · split at h
          · split at h
            · injection h with h
              exact .inr (by rw [← h]; show i ≤ _; omega)
            · by_cases hk : (escR r).2 ≤ r.length
              · rcases ih _ (by rw [← hn, List.length_drop, List.length_cons]; omega) _ rfl _ _ _ _ h with h2 | h2
                · exact .inl h2
                · rw [List.length_drop] at h2
                  exact .inr (by omega)
              · rw [List.drop_of_length_le (by omega), txtG] at h
                injection h with h
                exact .inl (by rw [← h])
          · rcases ih _ (by rw [← hn, List.length_cons]; omega) _ rfl _ _ _ _ h with h2 | h2
            · exact .inl h2
            · exact .inr (by omega)
theorem tok_at {at_ : Nat} {l : Bs} {e : Nat × Int} (h : tokG at_ l = .error e) : e.1 ≤ at_ + l.length := by
  cases l with
  | nil =>
    simp only [tokG] at h
    injection h with h
    rw [← h]
    exact Nat.le_add_right _ _
  | cons c r =>
    rw [List.length_cons]
    simp only [tokG] at h
    split at h
    · split at h
      · rename_i e' hj
        injection h with h
        have h5 := txt_at _ _ rfl _ _ _ _ hj
        subst h
        omega
      · cases h
    · split at h
      · cases h
      · split at h
        · split at h
          · split at h
            · cases h
            · injection h with h
              rw [← h]
              exact Nat.le_add_right _ _
          · split at h
            · cases h
            · injection h with h
              rw [← h]
              exact Nat.le_add_right _ _
        · split at h
          · cases h
          · split at h
            · cases h
            · injection h with h
              rw [← h]
              exact Nat.le_add_right _ _
theorem toks_at : ∀ (n : Nat) (l : Bs), l.length = n → ∀ p, (∀ t ∈ (toksG p l).1, t.p ≤ p + l.length) ∧ ∀ e, (toksG p l).2 = some e → e.1 ≤ p + l.length := by
  intro n
  induction n using Nat.strongRecOn with
  | _ n ih =>
    intro l hn p
    rw [toksG]
    split
    · exact ⟨by simp, by simp⟩
    · rename_i h
      have h1 : 0 < (l.drop (gapC false l)).length := List.length_pos_iff.2 h
      have hg := gapC_le false l
      split
      · rename_i e' hk
        have h3 := tok_at hk
        rw [List.length_drop] at h1 h3
        refine ⟨by simp, fun e h2 => ?_⟩
        injection h2 with h2
        subst h2
        omega
      · rename_i t k hk
        obtain ⟨h3, h4, h5⟩ := tok_len hk
        rw [List.length_drop] at h1 h4
        obtain ⟨q1, q2⟩ := ih ((l.drop (gapC false l)).drop (max k 1)).length (by simp only [List.length_drop]; omega) _ rfl (p + gapC false l + k)
        simp only [List.length_drop] at q1 q2
        refine ⟨fun t' ht => ?_, fun e he => ?_⟩
        · rcases List.mem_cons.1 ht with rfl | ht
          · omega
          · have := q1 t' ht
            omega
        · have := q2 e he
          omega
theorem lxR_at (l : Bs) : (∀ t ∈ (lxR l).1, t.p ≤ l.length) ∧ ∀ e, (lxR l).2 = some e → e.1 ≤ l.length := by
  unfold lxR
  split
  · refine ⟨by simp, fun e h => ?_⟩
    injection h with h
    rw [← h]
    exact Nat.zero_le _
  · have := toks_at _ l rfl 0
    simpa using this
/-- the tokens lie there to be read -/
def TkS (A : Option Addr) (X : List Tk) (w : World) : Prop := ∀ k x, X[k]? = some x → ∃ g, A = some ⟨g, 0, none⟩ ∧ g < w.heap.size ∧
  w.cell? ⟨g, k * 4, none⟩ = some (.int .i64 x.k) ∧ w.cell? ⟨g, k * 4 + 1, none⟩ = some (.string (mkS x.t)) ∧ w.cell? ⟨g, k * 4 + 2, none⟩ = some (.int .i64 x.n) ∧ w.cell? ⟨g, k * 4 + 3, none⟩ = some (.int .i64 (x.p : Int))
theorem TkS.below {A : Option Addr} {X : List Tk} {w w' : World} (h : TkS A X w) (hb : Below w.heap.size w w') : TkS A X w' := by
  intro k x hx
  obtain ⟨g, h1, h2, h3, h4, h5, h6⟩ := h k x hx
  exact ⟨g, h1, Nat.lt_of_lt_of_le h2 hb.size, by rw [hb.cell (p := ⟨g, _, none⟩) h2, h3], by rw [hb.cell (p := ⟨g, _, none⟩) h2, h4], by rw [hb.cell (p := ⟨g, _, none⟩) h2, h5], by rw [hb.cell (p := ⟨g, _, none⟩) h2, h6]⟩
theorem all_tks (s : ByteArray) (w : World) (hW : LxW w) : Calls Tryz.prog 10 #[.string s] w fun e w' => ∃ A c, e = .returned (.tuple #[.slice A (lxA (lS s)).1.length c, .int .i64 ((lxA (lS s)).2.1 : Int), .int .i64 (lxA (lS s)).2.2]) ∧ TkS A (lxA (lS s)).1 w' ∧ Below w.heap.size w w' := by
  refine (All_any s w hW).mono ?_
  rintro e w' ⟨v, rfl, h⟩
  have hb := h.bel
  by_cases h0 : 0 < (lxA (lS s)).1.length
  · obtain ⟨g, cap, rfl, h1, h2, h3, h4⟩ := h.tkAt h0
    refine ⟨_, _, rfl, fun k x hx => ?_, hb⟩
    obtain ⟨q0, q1, q2, q3⟩ := h4 k x hx
    exact ⟨g, rfl, h3, q0, q1, q2, q3⟩
  · obtain ⟨A, cap, rfl, h1, h2, h3⟩ := h.owForm
    refine ⟨_, _, rfl, fun k x hx => ?_, hb⟩
    have := (List.getElem?_eq_some_iff.1 hx).1
    omega
end Go.Proofs.YtcfobagcdgnfoaaGreatDoor
