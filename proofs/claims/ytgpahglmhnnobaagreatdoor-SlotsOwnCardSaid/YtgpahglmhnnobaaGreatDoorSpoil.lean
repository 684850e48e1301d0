/- The law's 'spoil': every place of a slice is written over, and the slice is grown: what it may touch, and what it leaves. -/
import Derived.Test.YtgpahglmhnnobaaGreatDoorSet
namespace Go.Proofs.YtgpahglmhnnobaaGreatDoor
open Go.RowKit
set_option linter.unusedVariables false

/-- what spoil leaves of a row of the call's own -/
def Spoilt (base : Nat) (v : Value) (n mark : Nat) (w : World) (e : Ending) (w' : World) : Prop :=
  e = .returned (.tuple #[]) ∧ OB w' base 5 v (List.replicate n mark) ∧ w.grownBy w' v.ownBlock

theorem IsBytes.replicate {m : Nat} (n : Nat) (h : m < 256) : IsBytes (List.replicate n m) := by
  intro x hx
  rw [List.mem_replicate] at hx
  omega
theorem set_cells8 (bs : List Nat) (k m : Nat) : (cells8 bs).set k (.int .u8 (m : Int)) = cells8 (bs.set k m) := by
  unfold cells8
  rw [List.map_set]
/-- a store into a row of the call's own -/
theorem OB.stored {w : World} {base : Nat} {e : TypeId} {g c : Nat} {bs : List Nat} (h : OB w base e (.slice (some ⟨g, 0, none⟩) bs.length c) bs) (k m : Nat) (hm : m < 256) :
    OB (w.setCell ⟨g, k, none⟩ (.int .u8 (m : Int))) base e (.slice (some ⟨g, 0, none⟩) bs.length c) (bs.set k m) ∧ w.grownBy (w.setCell ⟨g, k, none⟩ (.int .u8 (m : Int))) (some g) := by
  have h1 := h.2.stored k (.int .u8 (m : Int))
  refine ⟨⟨fun x hx => ?_, ?_⟩, h1.2⟩
  · rcases List.mem_or_eq_of_mem_set hx with h2 | h2
    · exact h.1 x h2
    · omega
  · rw [List.length_set, ← set_cells8]
    exact h1.1
theorem spoil_set (n k m : Nat) (bs : List Nat) (hn : bs.length = n) (hk : k < n) : (List.replicate k m ++ bs.drop k).set k m = List.replicate (k + 1) m ++ bs.drop (k + 1) := by
  rw [List.set_append_right _ _ (by simp), List.length_replicate, Nat.sub_self, drop_nth bs k (by omega), List.set_cons_zero, List.replicate_succ', List.append_assoc]
  rfl
theorem replicate_add' (n k m : Nat) : List.replicate n m ++ List.replicate k m = List.replicate (n + k) m := by rw [List.replicate_append_replicate]

/-- g grows out of v: in v's own block, or away from it -/
def Off (v u : Value) (n k : Nat) : Prop := (∃ g c, v = .slice (some ⟨g, 0, none⟩) n c ∧ u = .slice (some ⟨g, 0, none⟩) (n + k) c) ∨ (v.ownBlock = none ∨ v.ownBlock ≠ u.ownBlock)
theorem Off.start {w : World} {base : Nat} {e : TypeId} {v : Value} {bs : List Nat} (h : OB w base e v bs) : Off v v bs.length 0 := by
  rcases h.2.2 with ⟨rfl, _⟩ | ⟨g, c, _, rfl, _⟩
  · exact .inr (.inl rfl)
  · exact .inl ⟨g, c, rfl, rfl⟩
theorem Off.step {w w' : World} {base : Nat} {e : TypeId} {v u u' : Value} {n k m : Nat} (hv : OB w base e v (List.replicate n m)) (hu : OB w base e u (List.replicate (n + k) m)) (hu' : OB w' base e u' (List.replicate (n + k + 1) m)) (ho : Off v u n k)
    (hg : w.grownBy w' u.ownBlock) (hx : Onto w w' u u' (n + k) 1) : OB w' base e v (List.replicate n m) ∧ Off v u' n (k + 1) := by
  rcases ho with ⟨g, c, rfl, rfl⟩ | ho
  · rcases hx with ⟨g', c', h1, rfl⟩ | ⟨h1, h2⟩
    · simp only [Value.slice.injEq, Option.some.injEq, Addr.mk.injEq, and_true, true_and] at h1
      obtain ⟨rfl, rfl⟩ := h1
      refine ⟨?_, .inl ⟨g, c, rfl, rfl⟩⟩
      rw [Nat.add_assoc, ← replicate_add'] at hu'
      have := hu'.prefix
      rwa [List.length_replicate] at this
    · refine ⟨hv.kept h1 (.inr (by simp [Value.ownBlock])), .inr (.inr ?_)⟩
      have := (hv.2.lt g rfl).2
      rw [h2]
      intro e
      injection e with e
      simp at e
      omega
  · refine ⟨hv.kept hg ?_, ?_⟩
    · exact ho
    · rcases hx with ⟨g', c', rfl, rfl⟩ | ⟨_, h2⟩
      · exact .inr ho
      · rcases ho with h | h
        · exact .inr (.inl h)
        · rcases hvb : v.ownBlock with _ | g
          · exact .inr (.inl hvb)
          · have := (hv.2.lt g hvb).2
            refine .inr (.inr ?_)
            rw [h2, hvb]
            intro e
            injection e with e
            omega

end Go.Proofs.YtgpahglmhnnobaaGreatDoor
