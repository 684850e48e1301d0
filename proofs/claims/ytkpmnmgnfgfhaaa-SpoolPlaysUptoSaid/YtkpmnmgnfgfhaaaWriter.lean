/- Contracts of the Writer's methods. -/
import Derived.Test.YtkpmnmgnfgfhaaaSet
import Derived.WalkSpells
namespace Go.Proofs.Ytkpmnmgnfgfhaaa
open Go.RowKit
set_option linter.unusedVariables false

/-- its blocks -/
def wfp (g : Nat) (v : Value) (k : Nat) : Prop := k = g ∨ v.ownBlock = some k

/-- what Num puts -/
def putNum (width : Int) (n : Nat) : List Nat := if isW width = true then enc width.toNat n else []
theorem putNum_yes {width : Int} {n : Nat} (h : isW width = true) : putNum width n = enc width.toNat n := if_pos h
theorem putNum_no {width : Int} {n : Nat} (h : isW width = false) : putNum width n = [] := by unfold putNum; rw [h]; rfl

/-! ### bytes.Clone -/
set_option maxHeartbeats 400000 in
theorem Clone_any (A : Option Addr) (cap B : Nat) (bs : List Nat) (w : World) (h : RB w B A bs) (hB : B ≤ w.heap.size) (hl : bs.length ≤ 140737488355328) :
    Calls Try.prog 26 #[.slice A bs.length cap] w (NewB bs w) := by
  obtain ⟨i0, hi, hz0, hz1, hz2⟩ := info_parts u8_info
  have hnil := Lib.run_eql_slice_nil (P := Try.prog) w 22 5 A bs.length cap 0 0 Try.underlying22
  rcases A with _ | a
  · have hbs : bs = [] := by
      rcases Nat.eq_zero_or_pos bs.length with h0 | h0
      · exact List.length_eq_zero_iff.1 h0
      · obtain ⟨_, h, _⟩ := h.2.2 h0
        cases h
    subst hbs
    simp only [Option.isNone_none, List.length_nil] at hnil
    go_enter Try.func26, Try.ntmps26
    go_wp2
    go_ret
    exact ⟨_, rfl, OB.nil _ _ _, Below.refl _ _⟩
  · simp only [Option.isNone_some] at hnil
    go_enter Try.func26, Try.ntmps26
    go_wp2_with (at_builtin; refine wpList_append_bytes _ rfl _ _ 22 rfl w.heap.size 5 i0 Try.underlying22 hi hz0 hz1 hz2 (.slice (some ⟨w.heap.size, 0, none⟩) 0 0) [] (by rfl) ⟨IsBytes.nil, World.ownsRow_lit w #[] 0 (Nat.le_refl _) (Nat.zero_le _) rfl⟩ (some a) cap B bs bs.length rfl (by rfl) (h.alloc hB _) (by simpa using hl) (by simp) ?_; intro v1 w1 hown1 hg1 hat1)
    have hb1 : Below w.heap.size w w1 := below_own (((Below.refl _ _).alloc (Nat.le_refl _) _)) (World.ownsRow_lit (base := w.heap.size) (size := 1) w #[] 0 (Nat.le_refl _) (Nat.zero_le _) rfl) (Nat.le_refl _) hg1 (by simp)
    go_ret
    exact ⟨_, rfl, by simpa using hown1, hb1⟩

end Go.Proofs.Ytkpmnmgnfgfhaaa
