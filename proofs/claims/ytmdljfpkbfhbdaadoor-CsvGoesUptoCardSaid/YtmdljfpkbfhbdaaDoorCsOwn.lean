/- csv: stores and appends into rows of one's own. -/
import Derived.Test.YtmdljfpkbfhbdaaDoorCsLaw
import Derived.Test.YtmdljfpkbfhbdaaDoorLkSt
namespace Go.Proofs.YtmdljfpkbfhbdaaDoor
open Go.RowKit
set_option linter.unusedVariables false

theorem Sep.packS {l l' : List Ass} {w : World} {F : Fp} (h : Sep (l' ++ l) w F) : Sep (Sep l' :: l) w F := by
  obtain ⟨G, H, h1, h2, h3, e⟩ := Sep.split h
  exact ⟨G, H, h1, h2, h3, e⟩
theorem Sep.flatS {l l' : List Ass} {w : World} {F : Fp} (h : Sep (Sep l' :: l) w F) : Sep (l' ++ l) w F := by
  obtain ⟨G, H, h1, h2, h3, e⟩ := h
  subst e
  exact h1.append h2 h3
/-- the row i comes to the front, apart from the others -/
theorem St.pick {S : Fp} {l : List Ass} {w0 w : World} {l1 l2 : List Ass} {P : Ass} (h : St S (Sep (l1 ++ P :: l2) :: l) w0 w) : St S (P :: Sep l1 :: Sep l2 :: l) w0 w := by
  have h1 : St S (l1 ++ (P :: (l2 ++ l))) w0 w := by
    have := h.flat
    simpa using this
  have h2 : St S (P :: Sep l1 :: (l2 ++ l)) w0 w := (St.pack (l' := l1) h1).swap
  exact h2.map fun F h => Sep.rest (fun F h => Sep.rest (fun F h => Sep.packS h) h) h
theorem St.unpick {S : Fp} {l : List Ass} {w0 w : World} {l1 l2 : List Ass} {P : Ass} (h : St S (P :: Sep l1 :: Sep l2 :: l) w0 w) : St S (Sep (l1 ++ P :: l2) :: l) w0 w := by
  have h1 : St S (P :: Sep l1 :: (l2 ++ l)) w0 w := h.map fun F h => Sep.rest (fun F h => Sep.rest (fun F h => Sep.flatS h) h) h
  have h2 : St S (l1 ++ (P :: (l2 ++ l))) w0 w := St.flat h1.swap
  exact St.pack (l' := l1 ++ P :: l2) (by simpa using h2)
theorem map_at {α β : Type} (f : α → β) {X : List α} {i : Nat} (h : i < X.length) : X.map f = (X.take i).map f ++ f X[i] :: (X.drop (i + 1)).map f := by
  have e : X = X.take i ++ X[i] :: X.drop (i + 1) := by
    rw [← List.drop_eq_getElem_cons h, List.take_append_drop]
  conv => lhs; rw [e]
  rw [List.map_append, List.map_cons]
theorem map_set {α β : Type} (f : α → β) {X : List α} {i : Nat} (h : i < X.length) (y : α) : (X.set i y).map f = (X.take i).map f ++ f y :: (X.drop (i + 1)).map f := by
  rw [List.set_eq_take_append_cons_drop, if_pos h, List.map_append, List.map_cons]
/-- the outer row and one inner row in front -/
theorem St.open1 {S : Fp} {l : List Ass} {w0 w : World} {v : Value} {X : List Rq} (h : St S (RwsA v X :: l) w0 w) {i : Nat} (hi : i < X.length) :
    St S (rowA X[i] :: OlA Rq.v 40 v X :: Sep ((X.take i).map rowA) :: Sep ((X.drop (i + 1)).map rowA) :: l) w0 w := by
  have h1 : St S (Sep (X.map rowA) :: OlA Rq.v 40 v X :: l) w0 w := (St.flat (l' := [_, _]) h).swap
  rw [map_at rowA hi] at h1
  have h2 := h1.pick
  exact h2.map fun F h => Sep.rest (fun F h => h.bring2) h
theorem St.close1 {S : Fp} {l : List Ass} {w0 w : World} {v : Value} {X : List Rq} {i : Nat} (hi : i < X.length) (q : Rq)
    (h : St S (rowA q :: OlA Rq.v 40 v (X.set i q) :: Sep ((X.take i).map rowA) :: Sep ((X.drop (i + 1)).map rowA) :: l) w0 w) : St S (RwsA v (X.set i q) :: l) w0 w := by
  have h1 : St S (rowA q :: Sep ((X.take i).map rowA) :: Sep ((X.drop (i + 1)).map rowA) :: OlA Rq.v 40 v (X.set i q) :: l) w0 w :=
    h.map fun F h => Sep.rest (fun F h => Sep.rest (fun F h => h.swap) h.swap) h
  have h2 := h1.unpick
  rw [← map_set rowA hi] at h2
  exact St.pack (l' := [_, _]) h2.swap
/-- one field written over -/
theorem St.storeRws {S : Fp} {l : List Ass} [Stable (Sep l)] {w0 w : World} {A : Option Addr} {n c : Nat} {X : List Rq} (h : St S (RwsA (.slice A n c) X :: l) w0 w) {i k : Nat} (hi : i < X.length) (hk : k < X[i].L.length) (y : ByteArray) :
    ∃ g, X[i].A = some ⟨g, 0, none⟩ ∧ (∃ u0, w.cell? ⟨g, k, none⟩ = some u0) ∧ w.frozen? ⟨g, k, none⟩ = false ∧
      St S (RwsA (.slice A n c) (X.set i ⟨X[i].A, X[i].c, X[i].L.set k y⟩) :: l) w0 (w.setCell ⟨g, k, none⟩ (.string y)) := by
  have h1 := h.open1 hi
  obtain ⟨g, hA, hc, hf, hs⟩ := St.storeOlL (f := svl) (A := X[i].A) (n := X[i].L.length) (cap := X[i].c) (L := X[i].L) h1 rfl hk y (svl_ok y)
  refine ⟨g, hA, hc, hf, St.close1 hi _ ?_⟩
  have hv : (⟨X[i].A, X[i].c, X[i].L.set k y⟩ : Rq).v = X[i].v := by simp [Rq.v]
  have h2 : St S (rowA ⟨X[i].A, X[i].c, X[i].L.set k y⟩ :: OlA Rq.v 40 (.slice A n c) X :: Sep ((X.take i).map rowA) :: Sep ((X.drop (i + 1)).map rowA) :: l) w0 (w.setCell ⟨g, k, none⟩ (.string y)) := by
    have e : rowA ⟨X[i].A, X[i].c, X[i].L.set k y⟩ = OlA svl 9 (.slice X[i].A X[i].L.length X[i].c) (X[i].L.set k y) := by
      unfold rowA
      rw [hv]
      rfl
    rw [e]
    exact hs
  refine (h2.swap.mapHead (Q := OlA Rq.v 40 (.slice A n c) (X.set i ⟨X[i].A, X[i].c, X[i].L.set k y⟩)) fun F ⟨ho, hF⟩ => ⟨⟨fun x _ => rqv_ok x, ?_⟩, hF⟩).swap
  have e : (X.set i ⟨X[i].A, X[i].c, X[i].L.set k y⟩).map Rq.v = X.map Rq.v := by
    rw [map_set Rq.v hi, hv, ← map_at Rq.v hi]
  rw [List.length_set, e]
  exact ho.2
/-- a header written over, its row having grown -/
theorem St.storeHead {S : Fp} {l : List Ass} [Stable (Sep l)] {w0 w : World} {A : Option Addr} {n c : Nat} {X : List Rq} {i : Nat} (hi : i < X.length) (q : Rq)
    (h : St S (rowA q :: OlA Rq.v 40 (.slice A n c) X :: Sep ((X.take i).map rowA) :: Sep ((X.drop (i + 1)).map rowA) :: l) w0 w) :
    ∃ g, A = some ⟨g, 0, none⟩ ∧ (∃ u0, w.cell? ⟨g, i, none⟩ = some u0) ∧ w.frozen? ⟨g, i, none⟩ = false ∧ St S (RwsA (.slice A n c) (X.set i q) :: l) w0 (w.setCell ⟨g, i, none⟩ q.v) := by
  have hn : X.length = n := (OL.reads h.swap.ol).1.symm
  obtain ⟨g, hA, hc, hf, hs⟩ := St.storeOlL (f := Rq.v) h.swap hn (by omega : i < n) q (rqv_ok q)
  exact ⟨g, hA, hc, hf, St.close1 hi q hs.swap⟩
end Go.Proofs.YtmdljfpkbfhbdaaDoor
