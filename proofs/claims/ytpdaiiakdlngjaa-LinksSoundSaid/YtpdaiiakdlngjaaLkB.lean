/- links: lists of Bools that mark what was met. -/
import Derived.Test.YtpdaiiakdlngjaaLk3
import Derived.Test.YtpdaiiakdlngjaaLkSt
namespace Go.Proofs.Ytpdaiiakdlngjaa
open Go.RowKit
set_option linter.unusedVariables false

theorem cell_ltB {w : World} {a : Addr} {v : Value} (h : w.cell? a = some v) : a.block < w.heap.size := World.block_lt_of_cell? w _ h
theorem nb_info : (Try.prog.info? 4).map (fun i => (i.zero, i.size, i.bytes)) = some (some (.bool false), 1, 1) := by kernel_rfl
abbrev bvl : Bool → Value := fun b => Value.bool b
theorem bvl_ok (b : Bool) : bvl b ≠ undef ∧ (bvl b).oneCell' = true := ⟨by simp [bvl, undef], rfl⟩
/-- which ids were met -/
def metB (O : List Int) : Nat → List Bool → List Bool
  | 0, M => M
  | k + 1, M => (metB O k M).set (nthI O k).toNat true
theorem metB_len (O : List Int) (k : Nat) (M : List Bool) : (metB O k M).length = M.length := by
  induction k with
  | zero => rfl
  | succ k ih => unfold metB; rw [List.length_set, ih]
theorem metB_at (O : List Int) (n : Nat) (m : Nat) (hm : m < n) : ∀ k, k ≤ O.length → (∀ j, j < k → (0 : Int) ≤ nthI O j) → (metB O k (List.replicate n false))[m]? = some (decide ((m : Int) ∈ O.take k))
  | 0, _, _ => by simp [metB, hm]
  | k + 1, hk, hO => by
    have ih := metB_at O n m hm k (by omega) (fun j hj => hO j (by omega))
    unfold metB
    have hlt : k < O.length := by omega
    have hx := hO k (by omega)
    rw [List.getElem?_set, takeI_succ hlt, metB_len, List.length_replicate]
    by_cases h : (nthI O k).toNat = m
    · rw [if_pos h, h, if_pos hm]
      have : (m : Int) = nthI O k := by omega
      simp [this]
    · rw [if_neg h, ih]
      have : (m : Int) ≠ nthI O k := by omega
      simp [this]
/-- made marks are marks -/
theorem OL.made {w : World} {base : Nat} {e : TypeId} {v : Value} {n : Nat} (h : w.ownsRow base e 1 v n (madeCells #[.bool false] (n * 1)).toList) : OL bvl w base e v (List.replicate n false) := by
  rw [Nat.mul_one, toList_madeCells_one] at h
  exact ⟨fun x _ => bvl_ok x, by rw [List.length_replicate, List.map_replicate]; exact h⟩
end Go.Proofs.Ytpdaiiakdlngjaa
