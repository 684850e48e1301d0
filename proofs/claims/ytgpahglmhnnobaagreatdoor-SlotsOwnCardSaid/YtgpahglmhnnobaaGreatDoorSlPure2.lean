/- slots: what is read of slots and of bytes beside. -/
import Derived.Test.YtgpahglmhnnobaaGreatDoorSlZero
import Derived.Test.YtgpahglmhnnobaaGreatDoorValPref
namespace Go.Proofs.YtgpahglmhnnobaaGreatDoor
open Go.RowKit
set_option linter.unusedVariables false

theorem need_pos (n : Nat) : 1 ≤ need n := by unfold need; omega
/-- the first property of slots -/
def slN (b : List Nat) : Nat := be (b.take 2)
def slT (b : List Nat) : List Nat := b.drop 2
/-- its width in bytes -/
def slW (b : List Nat) : Nat := 8 * need (prefN (slT b))
def slPad (b : List Nat) : List Nat := (b.take (slW b)).drop (2 + prefN (slT b))
def slOk (b : List Nat) : Bool := isTok ((slN b : Int) - 1) && decide (prefErr (slT b) = 0) && allZ (slPad b)
def slKv (b : List Nat) : Kv := ⟨(slN b : Int) - 1, prefV (slT b)⟩
/-- the properties that stand in slots -/
noncomputable def inS (b : List Nat) : Option (List Kv) :=
  if b.length = 0 then some [] else if slN b = 0 then (if allZ b = true then some [] else none) else if slOk b = true then (inS (b.drop (slW b))).map (slKv b :: ·) else none
termination_by b.length
decreasing_by
  rw [List.length_drop]
  have := need_pos (prefN (slT b))
  unfold slW
  omega
theorem inS_nil {b : List Nat} (h : b.length = 0) : inS b = some [] := by rw [inS, if_pos h]
theorem inS_zero {b : List Nat} (h : b.length ≠ 0) (h2 : slN b = 0) : inS b = if allZ b = true then some [] else none := by rw [inS, if_neg h, if_pos h2]
theorem inS_bad {b : List Nat} (h : b.length ≠ 0) (h2 : slN b ≠ 0) (h3 : slOk b = false) : inS b = none := by rw [inS, if_neg h, if_neg h2, if_neg (by rw [h3]; decide)]
theorem inS_ok {b : List Nat} (h : b.length ≠ 0) (h2 : slN b ≠ 0) (h3 : slOk b = true) : inS b = (inS (b.drop (slW b))).map (slKv b :: ·) := by
  conv => lhs; rw [inS]
  rw [if_neg h, if_neg h2, if_pos h3]
/-- the first property beside -/
def ovN (b : List Nat) : Nat := be (b.take 2)
def ovL (b : List Nat) : Nat := be ((b.drop 2).take 2)
def ovD (b : List Nat) : List Nat := (b.drop 4).take (ovL b)
def ovOk (b : List Nat) : Bool := decide (4 ≤ b.length) && decide (4 + ovL b ≤ b.length) && isTok ((ovN b : Int) - 1) && decide (decErr (ovD b) = 0)
def ovKv (b : List Nat) : Kv := ⟨(ovN b : Int) - 1, decV (ovD b)⟩
noncomputable def inO (b : List Nat) : Option (List Kv) :=
  if b.length = 0 then some [] else if ovOk b = true then (inO (b.drop (4 + ovL b))).map (ovKv b :: ·) else none
termination_by b.length
decreasing_by
  rw [List.length_drop]
  omega
theorem inO_nil {b : List Nat} (h : b.length = 0) : inO b = some [] := by rw [inO, if_pos h]
theorem inO_bad {b : List Nat} (h : b.length ≠ 0) (h3 : ovOk b = false) : inO b = none := by rw [inO, if_neg h, if_neg (by rw [h3]; decide)]
theorem inO_ok {b : List Nat} (h : b.length ≠ 0) (h3 : ovOk b = true) : inO b = (inO (b.drop (4 + ovL b))).map (ovKv b :: ·) := by
  conv => lhs; rw [inO]
  rw [if_neg h, if_pos h3]
theorem slW_pos (b : List Nat) : 8 ≤ slW b := by have := need_pos (prefN (slT b)); unfold slW; omega
theorem slW_mod (b : List Nat) : slW b % 8 = 0 := by unfold slW; omega
/-- what a right property takes lies within -/
theorem slW_le {b : List Nat} (h8 : b.length % 8 = 0) (hb : IsBytes b) (hl : b.length ≠ 0) : slW b ≤ b.length ∧ prefN (slT b) + 2 ≤ slW b := by
  have h1 : prefN (slT b) ≤ (slT b).length := by
    unfold prefN
    split
    · rename_i h
      have h2 := (pref_ok (hb.drop 2) h).len
      unfold prefN slT at *
      rw [if_pos h] at h2
      exact h2
    · exact Nat.zero_le _
  unfold slT at h1
  rw [List.length_drop] at h1
  have h2 := need_room (prefN (slT b))
  unfold slW slT at *
  omega
end Go.Proofs.YtgpahglmhnnobaaGreatDoor
