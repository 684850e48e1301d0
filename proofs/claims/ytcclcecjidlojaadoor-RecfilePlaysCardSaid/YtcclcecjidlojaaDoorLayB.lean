/- Bytes laid over a part of one's own row: copy, clear. No program is named here. -/
import Derived.Test.YtcclcecjidlojaaDoorApZeros
import Derived.Laws.IdiomCopy
import Derived.Lib.SlBuf
import Derived.Lib.SliceRun
namespace Go.Proofs.YtcclcecjidlojaaDoor
open Go.RowKit
set_option linter.unusedVariables false

def layB (R : List Nat) : Nat → List Nat → List Nat
  | _, [] => R
  | o, x :: r => layB (R.set o x) (o + 1) r
theorem layB_len : ∀ (D : List Nat) (R : List Nat) (o : Nat), (layB R o D).length = R.length
  | [], _, _ => rfl
  | x :: r, R, o => by
    show (layB (R.set o x) (o + 1) r).length = _
    rw [layB_len r, List.length_set]
theorem layB_get : ∀ (D : List Nat) (R : List Nat) (o i : Nat), (layB R o D)[i]? = if o ≤ i ∧ i < o + D.length ∧ i < R.length then D[i - o]? else R[i]?
  | [], R, o, i => by
    rw [if_neg (by simp; omega)]
    rfl
  | x :: r, R, o, i => by
    show (layB (R.set o x) (o + 1) r)[i]? = _
    rw [layB_get r, List.length_set, List.getElem?_set, List.length_cons]
    by_cases h1 : o = i
    · subst h1
      by_cases h2 : o < R.length
      · have h3 : o ≤ o ∧ o < o + (r.length + 1) ∧ o < R.length := ⟨by omega, by omega, h2⟩
        rw [if_neg (by omega)]
        simp [h2]
      · rw [if_neg (by omega)]
        simp [h2]
    · by_cases h2 : o + 1 ≤ i ∧ i < o + 1 + r.length ∧ i < R.length
      · rw [if_pos h2, if_pos (by omega), show i - o = (i - (o + 1)) + 1 from by omega, List.getElem?_cons_succ]
      · rw [if_neg h2, if_neg h1, if_neg (by omega)]
theorem layB_nth (D R : List Nat) (o i : Nat) (h : o + D.length ≤ R.length) : nth (layB R o D) i = if o ≤ i ∧ i < o + D.length then nth D (i - o) else nth R i := by
  unfold nth
  rw [List.getD_eq_getElem?_getD, List.getD_eq_getElem?_getD, List.getD_eq_getElem?_getD, layB_get]
  by_cases h1 : o ≤ i ∧ i < o + D.length
  · rw [if_pos ⟨h1.1, h1.2, by omega⟩, if_pos h1]
  · rw [if_neg (fun h2 => h1 ⟨h2.1, h2.2.1⟩), if_neg h1]
theorem layB_eq (D R : List Nat) (o : Nat) (h : o + D.length ≤ R.length) : layB R o D = R.take o ++ (D ++ R.drop (o + D.length)) := by
  apply List.ext_getElem?
  intro i
  rw [layB_get]
  by_cases h1 : i < o
  · rw [if_neg (by omega), List.getElem?_append_left (by rw [List.length_take]; omega), List.getElem?_take, if_pos h1]
  · have hto : (R.take o).length = o := by rw [List.length_take]; omega
    rw [List.getElem?_append_right (by omega), hto]
    by_cases h2 : i < o + D.length
    · rw [if_pos ⟨by omega, h2, by omega⟩, List.getElem?_append_left (by omega)]
    · rw [if_neg (by omega), List.getElem?_append_right (by omega), List.getElem?_drop]
      congr 1
      omega
theorem OB.layB {e : TypeId} {base g n cap : Nat} : ∀ (D : List Nat) (o : Nat) (R : List Nat) (w : World), IsBytes D → R.length = n → OB w base e (.slice (some ⟨g, 0, none⟩) n cap) R →
    OB (w.setCells g o (cells8 D)) base e (.slice (some ⟨g, 0, none⟩) n cap) (layB R o D) ∧ w.grownBy (w.setCells g o (cells8 D)) (some g)
  | [], o, R, w, _, _, h => ⟨h, World.grownBy.refl w _⟩
  | x :: r, o, R, w, hD, hn, h => by
    have h2 := h.2
    rw [hn] at h2
    obtain ⟨h3, h4⟩ := h2.stored o (.int .u8 (x : Int))
    have hx : x < 256 := hD x (by simp)
    have ho : OB (w.setCell ⟨g, o, none⟩ (.int .u8 (x : Int))) base e (.slice (some ⟨g, 0, none⟩) n cap) (R.set o x) := by
      refine ⟨fun y hy => ?_, ?_⟩
      · rcases List.mem_or_eq_of_mem_set hy with h5 | h5
        · exact h.1 y h5
        · omega
      · rw [List.length_set, hn, ← set_cells8]; exact h3
    obtain ⟨h5, h6⟩ := OB.layB r (o + 1) (R.set o x) _ (fun y hy => hD y (by simp [hy])) (by rw [List.length_set, hn]) ho
    exact ⟨h5, grownBy_trans' h4 h6 (.inl rfl)⟩
theorem OB.spots {e : TypeId} {base g n cap : Nat} {R : List Nat} {w : World} (h : OB w base e (.slice (some ⟨g, 0, none⟩) n cap) R) (hn : R.length = n) : (∀ j, j < n → (w.cell? ⟨g, j, none⟩).isSome = true) ∧ ∀ j, w.frozen? ⟨g, j, none⟩ = false := by
  have h2 := h.2
  rw [hn] at h2
  refine ⟨fun j hj => ?_, fun j => h2.frozenAt j⟩
  have hl : (cells8 R).length = n := by rw [cells8_length, hn]
  have hc := (h2.cells (g := g) rfl) j _ (List.getElem?_eq_getElem (by omega))
  rw [add_none, Nat.zero_add] at hc
  rw [hc]
  rfl
theorem St.layB {S : Fp} {l : List Ass} [Stable (Sep l)] {w0 w : World} {e : TypeId} {g n cap : Nat} {R : List Nat} (h : St S (ObA e (.slice (some ⟨g, 0, none⟩) n cap) R :: l) w0 w) (hn : R.length = n) (o : Nat) (D : List Nat) (hD : IsBytes D) :
    St S (ObA e (.slice (some ⟨g, 0, none⟩) n cap) (Go.Proofs.YtcclcecjidlojaaDoor.layB R o D) :: l) w0 (w.setCells g o (cells8 D)) := by
  obtain ⟨ho, hg⟩ := OB.layB D o R w hD hn h.ob
  exact h.grewOb ho hg (.inl rfl) (Nat.le_refl _)
/-- copy of bytes into a part of one's own -/
theorem run_copy_layB {P : Program} {S : Fp} {l : List Ass} [Stable (Sep l)] {w0 w : World} {e : TypeId} {g n cap : Nat} {R : List Nat} (h : St S (ObA e (.slice (some ⟨g, 0, none⟩) n cap) R :: l) w0 w) (hn : R.length = n) (dT sT ty : TypeId)
    (hu : P.underlying dT = some (.slice e)) (hs : (P.info? e).map (·.size) = some 1) (o dCap : Nat) (A : Option Addr) (sCap B : Nat) (D : List Nat) (hr : RB w B A D) (hD : 0 < D.length) (hle : o + D.length ≤ n) :
    ∃ v, (Builtin.copy_ #[dT, sT] ty #[.slice (some ⟨g, o, none⟩) D.length dCap, .slice A D.length sCap]).run P w = .ok v (w.setCells g o (cells8 D)) := by
  obtain ⟨h1, h2⟩ := h.ob.spots hn
  obtain ⟨b, off, rfl, -, hc⟩ := hr.all hD
  have hl : (cells8 D).length = D.length := cells8_length _
  refine ⟨_, run_copy_cells (P := P) w dT sT ty e g o D.length dCap ⟨b, off, none⟩ D.length sCap (cells8 D) hu hs (by rw [hl]; exact (Nat.min_self _).symm) (fun j v hv => ?_) (fun j hj => h1 _ (by omega)) (fun j hj => h2 _) (cells8_oneCell _)⟩
  have hj : j < D.length := by
    rcases Nat.lt_or_ge j D.length with h | h
    · exact h
    · rw [List.getElem?_eq_none (by omega)] at hv; cases hv
  have hg : (cells8 D)[j]? = some (.int .u8 ((nth D j : Nat) : Int)) := by simp [cells8, nth_lt hj, List.getElem?_eq_getElem hj]
  rw [hg] at hv
  rw [add_none, hc j hj]
  exact hv
end Go.Proofs.YtcclcecjidlojaaDoor
