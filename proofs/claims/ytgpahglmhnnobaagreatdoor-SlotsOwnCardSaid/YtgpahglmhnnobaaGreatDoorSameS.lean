/- The law's 'same' where it compares the bytes as strings; the law's 'clone'. -/
import Derived.Test.YtgpahglmhnnobaaGreatDoorStr
import Derived.WalkLawsBesides
namespace Go.Proofs.YtgpahglmhnnobaaGreatDoor
open Go.RowKit
set_option linter.unusedVariables false

theorem str_eq_of_list {a b : ByteArray} (h : a.toList = b.toList) : a = b := by
  rw [ByteArray.toList_eq, ByteArray.toList_eq] at h
  cases a; cases b
  simp only at h
  rw [Array.toList_inj.1 h]
theorem strOf_inj {xs ys : List Nat} (hx : IsBytes xs) (hy : IsBytes ys) : strOf xs = strOf ys ↔ xs = ys := by
  constructor
  · intro h; rw [← strBytes_strOf hx, ← strBytes_strOf hy, h]
  · intro h; rw [h]

set_option maxHeartbeats 400000 in
theorem same_any (A A' : Option Addr) (cap cap' B B' : Nat) (xs ys : List Nat) (w : World) (h : RB w B A xs) (h' : RB w B' A' ys) (hl : xs.length ≤ maxLen) (hl' : ys.length ≤ maxLen) :
    Calls Tryz.prog 10 #[.slice A xs.length cap, .slice A' ys.length cap'] w (SameB (decide (xs = ys)) w) := by
  have h1 := run_bytes_str (P := Tryz.prog) w 25 9 5 cap Tryz.underlying25 Tryz.underlying5 Tryz.underlying9 h
  have h2 := run_bytes_str (P := Tryz.prog) w 25 9 5 cap' Tryz.underlying25 Tryz.underlying5 Tryz.underlying9 h'
  have hb : ((strOf xs).toList == (strOf ys).toList) = decide (xs = ys) := by
    rw [Bool.eq_iff_iff, beq_iff_eq, decide_eq_true_iff]
    exact ⟨fun e => (strOf_inj h.1 h'.1).1 (str_eq_of_list e), fun e => by rw [e]⟩
  go_enter Tryz.func10, Tryz.ntmps10
  go_wp2
  go_ret
  exact ⟨rfl, 0, rfl⟩

theorem same_yes (A A' : Option Addr) (n cap cap' B B' : Nat) (xs : List Nat) (w : World) (h : RB w B A xs) (h' : RB w B' A' xs) (hn : xs.length = n) (hl : n ≤ maxLen) :
    Calls Tryz.prog 10 #[.slice A n cap, .slice A' n cap'] w (SameB true w) := by
  subst hn
  have := same_any A A' cap cap' B B' xs xs w h h' hl hl
  rwa [decide_eq_true rfl] at this

end Go.Proofs.YtgpahglmhnnobaaGreatDoor
