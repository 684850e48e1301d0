/- The law's sameNode, where both are one. -/
import Derived.Test.YtpoaokkmmoeekaaRcPureNodeB
namespace Go.Proofs.Ytpoaokkmmoeekaa
open Go.RowKit
set_option linter.unusedVariables false
set_option maxHeartbeats 2000000 in
theorem sameNode_yes (A A' : Option Addr) (n cap cap' B B' : Nat) (r p : Int) (L : List Int) (w : World) (h : RL ivl w B A L) (h' : RL ivl w B' A' L) (hn : L.length = n) (hl : n ≤ maxLen) (hB : B ≤ w.heap.size) (hB' : B' ≤ w.heap.size) :
    Calls Try.prog 14 #[.agg #[.int .i64 r, .int .i64 p, .slice A n cap], .agg #[.int .i64 r, .int .i64 p, .slice A' n cap']] w fun e w' => e = .returned (.bool true) ∧ Below w.heap.size w w' := by
  subst hn
  obtain ⟨wo, hwo⟩ : ∃ wo, wo = (w.alloc (.cells #[.int .i64 r, .int .i64 p, .slice A L.length cap] 24)).alloc (.cells #[.int .i64 r, .int .i64 p, .slice A' L.length cap'] 24) := ⟨_, rfl⟩
  have hb : Below w.heap.size w wo := by rw [hwo]; exact ((Below.refl _ _).alloc (Nat.le_refl _) _).alloc (by simp) _
  have hs := SameInts_any A A' cap cap' B B' L L wo (h.below' hb hB) (h'.below' hb hB') hl hl
  rw [decide_eq_true rfl] at hs
  have HS := Lib.hid hs
  have HB := Lib.hid hb
  have Hwo := Lib.hid hwo
  have er : (r == r) = true := by simp
  have ep : (p == p) = true := by simp
  clear hwo hb hs h h'
  go_enter Try.func14, Try.ntmps14
  go_wp2_with (go_at_call 33; rw [← Hwo.out]; refine (HS.out).mono ?_; rintro e w1 ⟨rfl, m, hw1⟩; have HB1 := Lib.hid (below_drewN HB.out m); rw [← hw1] at HB1; clear hw1)
  go_ret
  exact ⟨rfl, HB1.out⟩
end Go.Proofs.Ytpoaokkmmoeekaa
