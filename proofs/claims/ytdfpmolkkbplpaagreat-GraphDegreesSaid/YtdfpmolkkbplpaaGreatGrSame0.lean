/- When two graphs are one, list by list: in plain words. -/
import Derived.Test.YtdfpmolkkbplpaaGreatGrBase
import Derived.Test.YtdfpmolkkbplpaaGreatValPure
namespace Go.Proofs.YtdfpmolkkbplpaaGreat
open Go.RowKit
set_option linter.unusedVariables false

/-- two lists agree, element by element -/
def eqF {α : Type} (f : α → α → Bool) : List α → List α → Bool
  | [], [] => true
  | a :: l, b :: m => f a b && eqF f l m
  | _, _ => false
theorem eqF_yes {α : Type} {f : α → α → Bool} : ∀ {L M : List α}, L.length = M.length → (∀ (k : Nat) a b, L[k]? = some a → M[k]? = some b → f a b = true) → eqF f L M = true
  | [], [], _, _ => rfl
  | [], b :: m, h, _ => by simp at h
  | a :: l, [], h, _ => by simp at h
  | a :: l, b :: m, h, k => by
    simp only [eqF, Bool.and_eq_true]
    exact ⟨k 0 a b rfl rfl, eqF_yes (by simpa using h) fun i x y hx hy => k (i + 1) x y (by simpa using hx) (by simpa using hy)⟩
theorem eqF_at {α : Type} {f : α → α → Bool} : ∀ {L M : List α}, eqF f L M = true → L.length = M.length ∧ ∀ (k : Nat) a b, L[k]? = some a → M[k]? = some b → f a b = true
  | [], [], _ => ⟨rfl, fun k a b h => by simp at h⟩
  | [], b :: m, h => by simp [eqF] at h
  | a :: l, [], h => by simp [eqF] at h
  | a :: l, b :: m, h => by
    simp only [eqF, Bool.and_eq_true] at h
    obtain ⟨h1, h2⟩ := eqF_at h.2
    refine ⟨by simp [h1], fun k x y hx hy => ?_⟩
    rcases k with _ | k
    · simp only [List.getElem?_cons_zero, Option.some.injEq] at hx hy
      rw [← hx, ← hy]; exact h.1
    · exact h2 k x y (by simpa using hx) (by simpa using hy)
theorem eqF_no {α : Type} {f : α → α → Bool} {L M : List α} {k : Nat} {a b : α} (h1 : L[k]? = some a) (h2 : M[k]? = some b) (h : f a b = false) : eqF f L M = false := by
  rw [Bool.eq_false_iff]
  intro e
  have := (eqF_at e).2 k a b h1 h2
  rw [h] at this; cases this
theorem eqF_len {α : Type} {f : α → α → Bool} {L M : List α} (h : L.length ≠ M.length) : eqF f L M = false := by
  rw [Bool.eq_false_iff]
  exact fun e => h (eqF_at e).1
theorem eqF_self {α : Type} {f : α → α → Bool} {L : List α} (h : ∀ a ∈ L, f a a = true) : eqF f L L = true :=
  eqF_yes rfl fun k a b ha hb => by
    rw [ha] at hb; injection hb with hb; subst hb
    exact h a (List.mem_of_getElem? ha)
theorem eqF_eq {α : Type} {f : α → α → Bool} (hf : ∀ a b, f a b = true → a = b) : ∀ {L M : List α}, eqF f L M = true → L = M
  | [], [], _ => rfl
  | [], b :: m, h => by simp [eqF] at h
  | a :: l, [], h => by simp [eqF] at h
  | a :: l, b :: m, h => by
    simp only [eqF, Bool.and_eq_true] at h
    rw [hf a b h.1, eqF_eq hf h.2]

def sameP (p q : Pv) : Bool := decide (p.key = q.key) && sameV p.val q.val
def sameN (a b : Nv) : Bool := decide (a.id = b.id) && (decide (a.labels = b.labels) && eqF sameP a.props b.props)
def sameR (a b : Rv) : Bool := decide (a.id = b.id) && (decide (a.typ = b.typ) && (decide (a.src = b.src) && (decide (a.dst = b.dst) && eqF sameP a.props b.props)))
def sameG (g h : Gv) : Bool := eqF sameN g.nodes h.nodes && eqF sameR g.rels h.rels
theorem sameP_self (p : Pv) : sameP p p = true := by simp [sameP, sameV_self]
theorem sameN_self (p : Nv) : sameN p p = true := by simp [sameN, eqF_self fun a _ => sameP_self a]
theorem sameR_self (p : Rv) : sameR p p = true := by simp [sameR, eqF_self fun a _ => sameP_self a]
theorem sameG_self (p : Gv) : sameG p p = true := by simp [sameG, eqF_self fun a _ => sameN_self a, eqF_self fun a _ => sameR_self a]
theorem sameP_eq (p q : Pv) (h : sameP p q = true) : p = q := by
  simp only [sameP, Bool.and_eq_true, decide_eq_true_eq] at h
  have := sameV_yes h.2
  cases p; cases q; simp_all
theorem sameN_eq (p q : Nv) (h : sameN p q = true) : p = q := by
  simp only [sameN, Bool.and_eq_true, decide_eq_true_eq] at h
  have := eqF_eq sameP_eq h.2.2
  cases p; cases q; simp_all
theorem sameR_eq (p q : Rv) (h : sameR p q = true) : p = q := by
  simp only [sameR, Bool.and_eq_true, decide_eq_true_eq] at h
  have := eqF_eq sameP_eq h.2.2.2.2
  cases p; cases q; simp_all
theorem sameG_eq (p q : Gv) (h : sameG p q = true) : p = q := by
  simp only [sameG, Bool.and_eq_true] at h
  have h1 := eqF_eq sameN_eq h.1
  have h2 := eqF_eq sameR_eq h.2
  cases p; cases q; simp_all

end Go.Proofs.YtdfpmolkkbplpaaGreat
