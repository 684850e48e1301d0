/- Hands: the nodes' degrees and the relationships' ends, counted. -/
import Derived.Test.YthnaipgdjbaebaaGreatGrRefCheck
namespace Go.Proofs.YthnaipgdjbaebaaGreat
open Go.RowKit
set_option linter.unusedVariables false

theorem cnodes_rise : ∀ (L : List Nv) (p i : Int), (cnodes p i L).1 = 0 → (∀ x ∈ L, p < x.id) ∧ L.Pairwise (fun a b => a.id < b.id)
  | [], _, _, _ => ⟨fun n h => by (cases h), List.Pairwise.nil⟩
  | n :: l, p, i, h => by
    simp only [cnodes] at h
    by_cases hz : cnode n p = 0
    · rw [if_pos hz] at h
      have hn : p < n.id := by
        unfold cnode at hz
        by_cases hc : cid n.id p 1024 61 = 0
        · unfold cid at hc
          split at hc
          · omega
          · split at hc
            · omega
            · omega
        · rw [if_neg hc] at hz
          exact absurd hz hc
      obtain ⟨h1, h2⟩ := cnodes_rise l _ _ h
      refine ⟨fun x hx => ?_, List.pairwise_cons.2 ⟨fun x hx => h1 x hx, h2⟩⟩
      rcases List.mem_cons.1 hx with rfl | hx
      · exact hn
      · have := h1 x hx
        omega
    · rw [if_neg hz] at h
      exact absurd h hz
theorem crels_ends (N : List Nv) : ∀ (L : List Rv) (p i : Int), (crels N p i L).1 = 0 → ∀ r ∈ L, hasId N r.src = true ∧ hasId N r.dst = true
  | [], _, _, _ => fun n h => by cases h
  | r :: l, p, i, h => by
    simp only [crels] at h
    by_cases hz : crel r p N = 0
    · rw [if_pos hz] at h
      intro x hx
      rcases List.mem_cons.1 hx with rfl | hx
      · unfold crel at hz
        by_cases hc : cid x.id p 2048 62 = 0
        · rw [if_pos hc] at hz
          split at hz
          · omega
          · split at hz
            · assumption
            · omega
        · rw [if_neg hc] at hz
          exact absurd hz hc
      · exact crels_ends N l _ _ h x hx
    · rw [if_neg hz] at h
      exact absurd h hz

/-- how many nodes have an id -/
def idCount (L : List Nv) (a : Int) : Nat := (L.filter fun n => decide (n.id = a)).length
theorem idCount_one : ∀ (L : List Nv), L.Pairwise (fun a b => a.id < b.id) → ∀ a, hasId L a = true → idCount L a = 1
  | [], _, a, h => by simp [hasId] at h
  | n :: l, hp, a, h => by
    obtain ⟨h1, h2⟩ := List.pairwise_cons.1 hp
    by_cases he : n.id = a
    · have : l.filter (fun n => decide (n.id = a)) = [] := by
        rw [List.filter_eq_nil_iff]
        intro x hx
        have := h1 x hx
        simp only [decide_eq_true_eq]
        omega
      unfold idCount
      rw [List.filter_cons, if_pos (by simpa using he), this]
      rfl
    · have hl : hasId l a = true := by
        unfold hasId at h ⊢
        simpa [he] using h
      have := idCount_one l h2 a hl
      unfold idCount at this ⊢
      rw [List.filter_cons, if_neg (by simpa using he)]
      exact this
/-- what the degrees of nodes come to -/
def degs (R : List Rv) (L : List Nv) : Nat := (L.map fun n => (touchIds R n.id).length).sum
/-- what the ends of relationships come to -/
def ends (L : List Rv) : Nat := (L.map fun r => if r.src = r.dst then 1 else 2).sum
theorem degs_nil : ∀ L : List Nv, degs [] L = 0
  | [] => rfl
  | n :: l => by
    have := degs_nil l
    unfold degs at this ⊢
    rw [List.map_cons, List.sum_cons, this]
    rfl
theorem idCount_cons (n : Nv) (l : List Nv) (a : Int) : idCount (n :: l) a = (if n.id = a then 1 else 0) + idCount l a := by
  unfold idCount
  rw [List.filter_cons]
  by_cases h : n.id = a
  · rw [if_pos (by simpa using h), if_pos h, List.length_cons]; omega
  · rw [if_neg (by simpa using h), if_neg h]; omega
theorem touch_one (n : Int) (r : Rv) : (if touch n r = true then 1 else 0) + (if r.src = r.dst then (if n = r.src then 1 else 0) else 0) = (if n = r.src then 1 else 0) + (if n = r.dst then 1 else 0) := by
  have ht : touch n r = true ↔ (r.src = n ∨ r.dst = n) := by simp [touch]
  by_cases h1 : n = r.src
  · by_cases h2 : n = r.dst
    · rw [if_pos (ht.2 (.inl h1.symm)), if_pos (by omega), if_pos h1, if_pos h2]
    · rw [if_pos (ht.2 (.inl h1.symm)), if_neg (by omega), if_pos h1, if_neg h2]
  · by_cases h2 : n = r.dst
    · rw [if_pos (ht.2 (.inr h2.symm)), if_neg (by omega), if_neg h1, if_pos h2]
    · have h3 : ¬ touch n r = true := by rw [ht]; omega
      rw [if_neg h3, if_neg h1, if_neg h2]
      split <;> rfl
theorem touches (r : Rv) : ∀ L : List Nv, (L.map fun n => if touch n.id r = true then 1 else 0).sum + (if r.src = r.dst then idCount L r.src else 0) = idCount L r.src + idCount L r.dst
  | [] => by simp [idCount]
  | n :: l => by
    have ih := touches r l
    have h1 := touch_one n.id r
    rw [List.map_cons, List.sum_cons, idCount_cons, idCount_cons]
    by_cases hs : r.src = r.dst
    · rw [if_pos hs] at h1 ih ⊢; omega
    · rw [if_neg hs] at h1 ih ⊢; omega
theorem degs_cons (r : Rv) (R : List Rv) : ∀ L : List Nv, degs (r :: R) L = (L.map fun n => if touch n.id r = true then 1 else 0).sum + degs R L
  | [] => rfl
  | n :: l => by
    have ih := degs_cons r R l
    unfold degs at ih ⊢
    rw [List.map_cons, List.sum_cons, List.map_cons, List.sum_cons, List.map_cons, List.sum_cons, ih]
    have : (touchIds (r :: R) n.id).length = (if touch n.id r = true then 1 else 0) + (touchIds R n.id).length := by
      unfold touchIds
      by_cases h : touch n.id r = true
      · simp [h]; omega
      · simp [h]
    omega
theorem hands (N : List Nv) (hN : N.Pairwise (fun a b => a.id < b.id)) : ∀ R : List Rv, (∀ r ∈ R, hasId N r.src = true ∧ hasId N r.dst = true) → degs R N = ends R
  | [], _ => degs_nil N
  | r :: R, h => by
    have ih := hands N hN R fun x hx => h x (by simp [hx])
    obtain ⟨h1, h2⟩ := h r (by simp)
    have t := touches r N
    rw [idCount_one N hN _ h1, idCount_one N hN _ h2] at t
    rw [degs_cons, ih]
    unfold ends
    rw [List.map_cons, List.sum_cons]
    by_cases hs : r.src = r.dst
    · rw [if_pos hs] at t ⊢; omega
    · rw [if_neg hs] at t ⊢; omega
theorem degs_snoc (R : List Rv) (L : List Nv) (n : Nv) : degs R (L ++ [n]) = degs R L + (touchIds R n.id).length := by simp [degs]
theorem ends_snoc (L : List Rv) (r : Rv) : ends (L ++ [r]) = ends L + (if r.src = r.dst then 1 else 2) := by simp [ends]
theorem degs_le (R : List Rv) : ∀ L : List Nv, degs R L ≤ L.length * R.length
  | [] => by simp [degs]
  | n :: l => by
    have ih := degs_le R l
    have := touchIds_len R n.id
    unfold degs at ih ⊢
    rw [List.map_cons, List.sum_cons, List.length_cons, Nat.add_mul]
    omega
theorem ends_le : ∀ L : List Rv, ends L ≤ 2 * L.length
  | [] => by simp [ends]
  | r :: l => by
    have ih := ends_le l
    unfold ends at ih ⊢
    rw [List.map_cons, List.sum_cons, List.length_cons]
    split <;> omega
theorem gcheck_zero (g : Gv) (h : (gcheck g).1 = 0) : (cnodes (-1) 0 g.nodes).1 = 0 ∧ (crels g.nodes (-1) 0 g.rels).1 = 0 := by
  unfold gcheck at h
  by_cases h1 : (cnodes (-1) 0 g.nodes).1 = 0
  · rw [if_pos h1] at h
    by_cases h2 : (crels g.nodes (-1) 0 g.rels).1 = 0
    · exact ⟨h1, h2⟩
    · rw [if_neg h2] at h
      exact absurd h h2
  · rw [if_neg h1] at h
    exact absurd h h1
end Go.Proofs.YthnaipgdjbaebaaGreat
