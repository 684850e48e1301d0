/- Contracts of the Writer's methods. -/
import Derived.Test.YthfoffcfbfmajaaGreatDoorSet
import Derived.WalkSpells
namespace Go.Proofs.YthfoffcfbfmajaaGreatDoor
open Go.RowKit
set_option linter.unusedVariables false

/-- its blocks -/
def wfp (g : Nat) (v : Value) (k : Nat) : Prop := k = g ∨ v.ownBlock = some k

/-- what Num puts -/
def putNum (width : Int) (n : Nat) : List Nat := if isW width = true then enc width.toNat n else []
theorem putNum_yes {width : Int} {n : Nat} (h : isW width = true) : putNum width n = enc width.toNat n := if_pos h
theorem putNum_no {width : Int} {n : Nat} (h : isW width = false) : putNum width n = [] := by unfold putNum; rw [h]; rfl

/-! ### bytes.Clone -/
end Go.Proofs.YthfoffcfbfmajaaGreatDoor
