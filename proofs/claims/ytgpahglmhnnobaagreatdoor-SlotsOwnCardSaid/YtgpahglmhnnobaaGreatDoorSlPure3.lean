/- slots: what Unpack answers. No function of the program is named here. -/
import Derived.Test.YtgpahglmhnnobaaGreatDoorSlPure2
namespace Go.Proofs.YtgpahglmhnnobaaGreatDoor
open Go.RowKit
set_option linter.unusedVariables false

/-! ### what Unpack answers -/
def srtK (L : List Kv) : List Kv := L.mergeSort fun a b => decide (a.k ≤ b.k)
theorem srtK_perm (L : List Kv) : (srtK L).Perm L := List.mergeSort_perm _ _
theorem srtK_asc (L : List Kv) : (srtK L).Pairwise fun a b => a.k ≤ b.k := by
  have h := List.pairwise_mergeSort (le := fun a b : Kv => decide (a.k ≤ b.k)) (fun a b c h1 h2 => by simp at *; omega) (fun a b => by simp; omega) L
  exact h.imp fun h => by simpa using h
/-- keys in ascending order, each above the one ahead -/
theorem pkRun_asc : ∀ (L : List Kv) (p : Pk), (pkRun p L).2 = 0 → (L.Pairwise fun a b => a.k < b.k) ∧ ∀ x ∈ L, p.key < x.k
  | [], p, _ => ⟨.nil, fun x hx => nomatch hx⟩
  | x :: L, p, h => by
    by_cases he : pkErr p.key x = 0
    · rw [pkRun_ok he] at h
      obtain ⟨h1, h2⟩ := pkRun_asc L (pkPut p x) h
      obtain ⟨_, _, h3, _⟩ := pkErr_zero he
      have hk : (pkPut p x).key = x.k := by unfold pkPut; split <;> rfl
      rw [hk] at h2
      refine ⟨List.Pairwise.cons h2 h1, fun y hy => ?_⟩
      rcases List.mem_cons.1 hy with rfl | hy
      · exact h3
      · have := h2 y hy; omega
    · rw [pkRun_no he] at h
      exact absurd h he
theorem pack_asc {L : List Kv} {room : Int} (h : packE L room = 0) : L.Pairwise fun a b => a.k < b.k := by
  unfold packE at h
  split at h
  · omega
  · split at h
    · omega
    · exact (pkRun_asc L _ h).1
/-- lists in ascending order of the same elements, one of them strictly -/
theorem asc_eq {L M : List Kv} (hp : L.Perm M) (hL : L.Pairwise fun a b => a.k < b.k) (hM : M.Pairwise fun a b => a.k ≤ b.k) : L = M := by
  induction L generalizing M with
  | nil => exact (List.perm_nil.1 hp.symm).symm
  | cons x L ih =>
    cases M with
    | nil => exact absurd hp.length_eq (by simp)
    | cons y M =>
      rw [List.pairwise_cons] at hL hM
      have hx : x = y := by
        have h1 : x ∈ y :: M := hp.subset (List.mem_cons_self ..)
        have h2 : y ∈ x :: L := hp.symm.subset (List.mem_cons_self ..)
        rcases List.mem_cons.1 h1 with h | h
        · exact h
        · rcases List.mem_cons.1 h2 with h' | h'
          · exact h'.symm
          · have a := hM.1 x h
            have b := hL.1 y h'
            omega
      subst hx
      rw [ih (List.Perm.cons_inv hp) hL.2 hM.2]
/-- whether a list is packed into just these bytes -/
def fitsB (L : List Kv) (S O : List Nat) : Bool := decide (packE L ((S.length / 8 : Nat) : Int) = 0) && decide (packS L ((S.length / 8 : Nat) : Int) = S) && decide (packO L ((S.length / 8 : Nat) : Int) = O)
theorem fits_same {L M : List Kv} {S O : List Nat} (hp : L.Perm M) (hL : L.Pairwise fun a b => a.k ≤ b.k) (hM : M.Pairwise fun a b => a.k ≤ b.k) : fitsB L S O = fitsB M S O ∧ (fitsB L S O = true → L = M) := by
  have key : ∀ {L M : List Kv}, L.Perm M → (L.Pairwise fun a b => a.k ≤ b.k) → (M.Pairwise fun a b => a.k ≤ b.k) → fitsB L S O = true → L = M := by
    intro L M hp hL hM h
    unfold fitsB at h
    simp only [Bool.and_eq_true, decide_eq_true_eq] at h
    exact asc_eq hp (pack_asc h.1.1) hM
  refine ⟨?_, key hp hL hM⟩
  cases h : fitsB L S O with
  | true => rw [← key hp hL hM h, h]
  | false =>
    cases h2 : fitsB M S O with
    | false => rfl
    | true => rw [← key hp.symm hM hL h2, h2] at h; cases h
noncomputable def unpR (S O : List Nat) : Int × List Kv :=
  if S.length % 8 ≠ 0 ∨ 128 < S.length then (4, []) else match inS S with
  | none => (160, [])
  | some a => match inO O with
    | none => (161, [])
    | some b => if 16 < a.length + b.length then (64, []) else if fitsB (srtK (a ++ b)) S O = true then (0, srtK (a ++ b)) else (162, [])
theorem unp_size {S O : List Nat} (h : S.length % 8 ≠ 0 ∨ 128 < S.length) : unpR S O = (4, []) := if_pos h
theorem unp_slots {S O : List Nat} (h : ¬ (S.length % 8 ≠ 0 ∨ 128 < S.length)) (h1 : inS S = none) : unpR S O = (160, []) := by unfold unpR; rw [if_neg h, h1]
theorem unp_over {S O : List Nat} {a : List Kv} (h : ¬ (S.length % 8 ≠ 0 ∨ 128 < S.length)) (h1 : inS S = some a) (h2 : inO O = none) : unpR S O = (161, []) := by unfold unpR; rw [if_neg h, h1]; simp only [h2]
theorem unp_many {S O : List Nat} {a b : List Kv} (h : ¬ (S.length % 8 ≠ 0 ∨ 128 < S.length)) (h1 : inS S = some a) (h2 : inO O = some b) (h3 : 16 < a.length + b.length) : unpR S O = (64, []) := by unfold unpR; rw [if_neg h, h1]; simp only [h2]; rw [if_pos h3]
theorem unp_fits {S O : List Nat} {a b : List Kv} (h : ¬ (S.length % 8 ≠ 0 ∨ 128 < S.length)) (h1 : inS S = some a) (h2 : inO O = some b) (h3 : ¬ 16 < a.length + b.length) : unpR S O = if fitsB (srtK (a ++ b)) S O = true then (0, srtK (a ++ b)) else (162, []) := by unfold unpR; rw [if_neg h, h1]; simp only [h2]; rw [if_neg h3]
end Go.Proofs.YtgpahglmhnnobaaGreatDoor
