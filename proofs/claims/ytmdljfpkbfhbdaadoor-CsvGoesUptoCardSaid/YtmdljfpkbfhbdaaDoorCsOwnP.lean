/- csv: what the law that writes over its answer keeps true. -/
import Derived.Test.YtmdljfpkbfhbdaaDoorCsOwn
namespace Go.Proofs.YtmdljfpkbfhbdaaDoor
open Go.RowKit
set_option linter.unusedVariables false

def starS : ByteArray := ⟨#[42]⟩
def plusS : ByteArray := ⟨#[43]⟩
/-- rows that stand beside R: those ahead of i, and the first k fields of row i, written over -/
def Starred (R : List Rw) (i k : Nat) (X : List Rq) : Prop :=
  X.length = R.length ∧ ∀ j (h : j < X.length) r, R[j]? = some r → X[j].L.length = r.length ∧ ∀ p, p < r.length → (j < i ∨ (j = i ∧ p < k)) → X[j].L[p]? = some starS
theorem Starred.start {R : List Rw} {X : List Rq} (h : rowsOf X = R) : Starred R 0 0 X := by
  subst h
  refine ⟨by simp, fun j h r hr => ⟨?_, fun p hp hj => by omega⟩⟩
  rw [List.getElem?_map, List.getElem?_eq_getElem h] at hr
  simp only [Option.map_some, Option.some.injEq] at hr
  rw [hr]
theorem Starred.next {R : List Rw} {X : List Rq} {i k : Nat} (h : Starred R i k X) (hi : i < X.length) (hk : X[i].L.length ≤ k) : Starred R (i + 1) 0 X := by
  refine ⟨h.1, fun j hj r hr => ⟨(h.2 j hj r hr).1, fun p hp hc => (h.2 j hj r hr).2 p hp ?_⟩⟩
  rcases Nat.lt_or_ge j i with h1 | h1
  · exact .inl h1
  · have e : j = i := by omega
    subst e
    have := (h.2 j hj r hr).1
    exact .inr ⟨rfl, by omega⟩
theorem Starred.set {R : List Rw} {X : List Rq} {i k : Nat} (h : Starred R i k X) (hi : i < X.length) (hk : k < X[i].L.length) : Starred R i (k + 1) (X.set i ⟨X[i].A, X[i].c, X[i].L.set k starS⟩) := by
  refine ⟨by rw [List.length_set]; exact h.1, fun j hj r hr => ?_⟩
  rw [List.length_set] at hj
  have h0 := h.2 j hj r hr
  rw [List.getElem_set]
  by_cases hji : i = j
  · subst hji
    rw [if_pos rfl]
    refine ⟨by simpa using h0.1, fun p hp hc => ?_⟩
    show (X[i].L.set k starS)[p]? = _
    rw [List.getElem?_set]
    by_cases hkp : k = p
    · subst hkp
      rw [if_pos rfl, if_pos hk]
    · rw [if_neg hkp]
      exact h0.2 p hp (hc.elim (fun h => by omega) fun h => .inr ⟨rfl, by omega⟩)
  · rw [if_neg hji]
    exact ⟨h0.1, fun p hp hc => h0.2 p hp (hc.elim .inl fun h => by omega)⟩
/-- behind the appends -/
def Plused (R : List Rw) (i k : Nat) (X : List Rq) : Prop :=
  X.length = R.length ∧ ∀ j (h : j < X.length) r, R[j]? = some r → r.length ≤ X[j].L.length ∧ X[j].L.length ≤ r.length + (if j < i then 16 else if j = i then k else 0) ∧ ∀ p, p < r.length → X[j].L[p]? = some starS
theorem Starred.plused {R : List Rw} {X : List Rq} {i : Nat} (h : Starred R i 0 X) (hi : X.length ≤ i) : Plused R 0 0 X :=
  ⟨h.1, fun j hj r hr => ⟨by have := (h.2 j hj r hr).1; omega, by have := (h.2 j hj r hr).1; omega, fun p hp => (h.2 j hj r hr).2 p hp (.inl (by omega))⟩⟩
theorem Plused.next {R : List Rw} {X : List Rq} {i : Nat} (h : Plused R i 16 X) : Plused R (i + 1) 0 X := by
  refine ⟨h.1, fun j hj r hr => ?_⟩
  obtain ⟨h1, h2, h3⟩ := h.2 j hj r hr
  refine ⟨h1, ?_, h3⟩
  split at h2
  · rw [if_pos (by omega)]; exact h2
  · split at h2
    · rw [if_pos (by omega)]; exact h2
    · rw [if_neg (by omega)]
      split <;> omega
theorem Plused.app {R : List Rw} {X : List Rq} {i k : Nat} (h : Plused R i k X) (hi : i < X.length) (q : Rq) (hq : q.L = X[i].L ++ [plusS]) : Plused R i (k + 1) (X.set i q) := by
  refine ⟨by rw [List.length_set]; exact h.1, fun j hj r hr => ?_⟩
  rw [List.length_set] at hj
  obtain ⟨h1, h2, h3⟩ := h.2 j hj r hr
  rw [List.getElem_set]
  by_cases hji : i = j
  · subst hji
    rw [if_pos rfl, hq]
    rw [if_neg (by omega), if_pos rfl] at h2 ⊢
    refine ⟨by simp; omega, by simp; omega, fun p hp => ?_⟩
    rw [List.getElem?_append_left (by omega)]
    exact h3 p hp
  · rw [if_neg hji]
    refine ⟨h1, ?_, h3⟩
    split at h2
    · rw [if_pos (by assumption)]; exact h2
    · rename_i hn
      rw [if_neg hn]
      rw [if_neg (by omega)] at h2 ⊢
      exact h2
theorem R_at {R : List Rw} {Z : List Rq} (h : rowsOf Z = R) {j : Nat} (hj : j < Z.length) : R[j]? = some Z[j].L := by
  rw [← h, List.getElem?_map, List.getElem?_eq_getElem hj]
  rfl
theorem own_at {S : Fp} {l : List Ass} {w0 w : World} {b off n c : Nat} {X : List Rq} (h : St S (RwsA (.slice (some ⟨b, off, none⟩) n c) X :: l) w0 w) {i : Nat} (hi : i < X.length) :
    w.cell? ⟨b, off + i, none⟩ = some X[i].v ∧ RL svl w w.heap.size X[i].A X[i].L ∧ X[i].L.length ≤ X[i].c ∧ X[i].c ≤ maxLen ∧ b < w.heap.size := by
  obtain ⟨-, -, -, h1, h2⟩ := h.rws
  obtain ⟨b', off', he, hb, hc⟩ := h1.all (by omega)
  injection he with he
  injection he with e1 e2 _
  subst e1 e2
  obtain ⟨h3, h4, h5⟩ := h2 X[i] (List.getElem_mem hi)
  exact ⟨hc i hi, h3, h4, h5, hb⟩
theorem own_some {S : Fp} {l : List Ass} {w0 w : World} {A : Option Addr} {n c : Nat} {X : List Rq} (h : St S (RwsA (.slice A n c) X :: l) w0 w) (hn : 0 < n) : ∃ b, A = some ⟨b, 0, none⟩ := by
  have h1 := (St.flat (l' := [_, _]) h).ol.2
  have hl : X.length = n := h.rws.1.symm
  rw [hl] at h1
  obtain ⟨g, cap, hv, _, _⟩ := h1.form hn
  simp only [Value.slice.injEq] at hv
  exact ⟨g, hv.1⟩
end Go.Proofs.YtmdljfpkbfhbdaaDoor
