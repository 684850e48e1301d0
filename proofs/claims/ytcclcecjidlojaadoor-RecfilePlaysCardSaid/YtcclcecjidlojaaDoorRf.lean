/- recfile: the file in memory; New, and what is told of it. -/
import Derived.Test.YtcclcecjidlojaaDoorProg
import Derived.Test.YtcclcecjidlojaaDoorSep
import Derived.Test.YtcclcecjidlojaaDoorWriter
import Derived.Deep.QuietTactic
import Derived.BigQuiet
import Derived.Deep.RegionHeld3
import Derived.Deep.Cut
import Derived.StillTailTactics
namespace Go.Proofs.YtcclcecjidlojaaDoor
open Go.RowKit
set_option linter.unusedVariables false

theorem isByte_any (n : Int) (w : World) : Calls Tryd.prog 35 #[.int .i64 n] w fun e w' => e = .returned (.bool (decide (0 ≤ n) && decide (n ≤ 255))) ∧ w = w' := by
  obtain ⟨p, hp⟩ : ∃ p, decide ((0 : Int) ≤ n) = p := ⟨_, rfl⟩
  obtain ⟨q, hq⟩ : ∃ q, decide (n ≤ (255 : Int)) = q := ⟨_, rfl⟩
  cases p
  all_goals
    go_enter Tryd.func35, Tryd.ntmps35
    go_wp2
    go_ret
    exact ⟨by rw [hp, hq]; rfl, rfl⟩
theorem goodSize_any (n : Int) (w : World) : Calls Tryd.prog 36 #[.int .i64 n] w fun e w' => e = .returned (.bool (decide (2 ≤ n) && decide (n ≤ 255))) ∧ w = w' := by
  obtain ⟨p, hp⟩ : ∃ p, decide ((2 : Int) ≤ n) = p := ⟨_, rfl⟩
  obtain ⟨q, hq⟩ : ∃ q, decide (n ≤ (255 : Int)) = q := ⟨_, rfl⟩
  cases p
  all_goals
    go_enter Tryd.func36, Tryd.ntmps36
    go_wp2
    go_ret
    exact ⟨by rw [hp, hq]; rfl, rfl⟩

theorem rfwrap {x : Int} (h : -9223372036854775808 ≤ x) (h2 : x ≤ 9223372036854775807) : wrap64 x = x := by
  have : wrap64 x = (x + 9223372036854775808) % 18446744073709551616 - 9223372036854775808 := by unfold wrap64; rfl
  omega
/-- the file's block and its records -/
def RfA (g : Nat) (K V S : Int) (R : List Nat) (lv lo : Int) : Ass := Ex fun v : Value => Sep [BlkA g 72 #[.int .i64 K, .int .i64 V, .int .i64 S, v, .int .i64 lv, .int .i64 lo], ObA 5 v R]
instance stableRf {g : Nat} {K V S : Int} {R : List Nat} {lv lo : Int} : Stable (RfA g K V S R lv lo) := stableEx
section
variable {S0 : Fp} {l : List Ass} {w0 w : World} {g : Nat} {K V S : Int} {R : List Nat} {lv lo : Int}
theorem rf_open (h : St S0 (RfA g K V S R lv lo :: l) w0 w) : ∃ v, St S0 (BlkA g 72 #[.int .i64 K, .int .i64 V, .int .i64 S, v, .int .i64 lv, .int .i64 lo] :: ObA 5 v R :: l) w0 w := by
  obtain ⟨v, h⟩ := h.ex
  exact ⟨v, h.flat⟩
theorem rf_shut {v : Value} (h : St S0 (BlkA g 72 #[.int .i64 K, .int .i64 V, .int .i64 S, v, .int .i64 lv, .int .i64 lo] :: ObA 5 v R :: l) w0 w) : St S0 (RfA g K V S R lv lo :: l) w0 w :=
  St.mapHead (h.pack (l' := [BlkA g 72 #[.int .i64 K, .int .i64 V, .int .i64 S, v, .int .i64 lv, .int .i64 lo], ObA 5 v R])) fun F hF => ⟨v, hF⟩
theorem rf_cells {v : Value} (h : St S0 (BlkA g 72 #[.int .i64 K, .int .i64 V, .int .i64 S, v, .int .i64 lv, .int .i64 lo] :: l) w0 w) :
    w.cell? ⟨g, 0, none⟩ = some (.int .i64 K) ∧ w.cell? ⟨g, 1, none⟩ = some (.int .i64 V) ∧ w.cell? ⟨g, 2, none⟩ = some (.int .i64 S) ∧ w.cell? ⟨g, 3, none⟩ = some v ∧ w.cell? ⟨g, 4, none⟩ = some (.int .i64 lv) ∧ w.cell? ⟨g, 5, none⟩ = some (.int .i64 lo) := by
  have := h.blk.cell
  exact ⟨by rw [this]; rfl, by rw [this]; rfl, by rw [this]; rfl, by rw [this]; rfl, by rw [this]; rfl, by rw [this]; rfl⟩

/-- New's error -/
def newErr (k v s : Int) : Int := if (decide (0 ≤ k) && decide (k ≤ 255)) = true ∧ (decide (0 ≤ v) && decide (v ≤ 255)) = true then if (decide (2 ≤ s) && decide (s ≤ 255)) = true then 0 else 4 else 2
set_option maxHeartbeats 400000 in
theorem rfNew_ok [Stable (Sep l)] (h : St S0 l w0 w) (k v s : Int) (he : newErr k v s = 0) :
    Calls Tryd.prog 12 #[.int .i64 k, .int .i64 v, .int .i64 s] w fun e w' => ∃ g, e = .returned (.tuple #[.pointer (some ⟨g, 0, none⟩), .int .i64 0]) ∧ St S0 (RfA g k v s [] 0 0 :: l) w0 w' := by
  unfold newErr at he
  split at he
  · rename_i h1
    split at he
    · rename_i h2
      have H := Lib.hid h
      have a1 := Lib.hid h1.1
      have a2 := Lib.hid h1.2
      have a3 := Lib.hid h2
      clear h h1 h2 he
      have hbl := fun W : World => run_build (P := Tryd.prog) W 72 #[(0, .int .i64 k), (1, .int .i64 v), (2, .int .i64 s)] #[.int .i64 k, .int .i64 v, .int .i64 s, .slice none 0 0, .int .i64 0, .int .i64 0] (by kernel_rfl)
      go_enter Tryd.func12, Tryd.ntmps12
      go_wp2_with (first
        | (go_at_call 35; refine (isByte_any _ _).mono ?_; rintro e w1 ⟨rfl, rfl⟩; first | rw [a1.out] | rw [a2.out])
        | (go_at_call 36; refine (goodSize_any _ _).mono ?_; rintro e w1 ⟨rfl, rfl⟩; rw [a3.out]))
      go_ret2
      exact ⟨_, rfl, rf_shut (((H.out.nilOb 5).newBlk _ _))⟩
    · exact absurd he (by decide)
  · exact absurd he (by decide)
set_option maxHeartbeats 400000 in
theorem rfNew_no (k v s : Int) (he : newErr k v s ≠ 0) :
    Calls Tryd.prog 12 #[.int .i64 k, .int .i64 v, .int .i64 s] w fun e w' => e = .returned (.tuple #[.pointer none, .int .i64 (newErr k v s)]) ∧ w = w' := by
  obtain ⟨p, hp⟩ : ∃ p, (decide (0 ≤ k) && decide (k ≤ 255)) = p := ⟨_, rfl⟩
  obtain ⟨q, hq⟩ : ∃ p, (decide (0 ≤ v) && decide (v ≤ 255)) = p := ⟨_, rfl⟩
  obtain ⟨r, hr⟩ : ∃ p, (decide (2 ≤ s) && decide (s ≤ 255)) = p := ⟨_, rfl⟩
  unfold newErr at he ⊢
  rw [hp, hq, hr] at he ⊢
  have a1 := Lib.hid hp
  have a2 := Lib.hid hq
  have a3 := Lib.hid hr
  clear hp hq hr
  cases p
  · clear he
    simp only [Bool.false_eq_true, false_and, if_false]
    go_enter Tryd.func12, Tryd.ntmps12
    go_wp2_with (go_at_call 35; refine (isByte_any _ _).mono ?_; rintro e w1 ⟨rfl, rfl⟩; rw [a1.out])
    go_ret2
    exact ⟨rfl, rfl⟩
  · cases q
    · clear he
      simp only [Bool.false_eq_true, and_false, if_false]
      go_enter Tryd.func12, Tryd.ntmps12
      go_wp2_with (go_at_call 35; refine (isByte_any _ _).mono ?_; rintro e w1 ⟨rfl, rfl⟩; first | rw [a1.out] | rw [a2.out])
      go_ret2
      exact ⟨rfl, rfl⟩
    · cases r
      · clear he
        go_enter Tryd.func12, Tryd.ntmps12
        go_wp2_with (first
          | (go_at_call 35; refine (isByte_any _ _).mono ?_; rintro e w1 ⟨rfl, rfl⟩; first | rw [a1.out] | rw [a2.out])
          | (go_at_call 36; refine (goodSize_any _ _).mono ?_; rintro e w1 ⟨rfl, rfl⟩; rw [a3.out]))
        go_ret2
        exact ⟨rfl, rfl⟩
      · exact absurd rfl he
theorem rfKind_any (h : St S0 (RfA g K V S R lv lo :: l) w0 w) :
    Calls Tryd.prog 37 #[.pointer (some ⟨g, 0, none⟩)] w fun e w' => e = .returned (.int .i64 K) ∧ w = w' := by
  obtain ⟨v, h⟩ := rf_open h
  obtain ⟨c0, c1, c2, c3, c4, c5⟩ := rf_cells h
  clear h
  go_enter Tryd.func37, Tryd.ntmps37
  go_wp2
  go_ret
  exact ⟨rfl, rfl⟩
theorem rfVersion_any (h : St S0 (RfA g K V S R lv lo :: l) w0 w) :
    Calls Tryd.prog 38 #[.pointer (some ⟨g, 0, none⟩)] w fun e w' => e = .returned (.int .i64 V) ∧ w = w' := by
  obtain ⟨v, h⟩ := rf_open h
  obtain ⟨c0, c1, c2, c3, c4, c5⟩ := rf_cells h
  clear h
  go_enter Tryd.func38, Tryd.ntmps38
  go_wp2
  go_ret
  exact ⟨rfl, rfl⟩
theorem rfSize_any (h : St S0 (RfA g K V S R lv lo :: l) w0 w) :
    Calls Tryd.prog 28 #[.pointer (some ⟨g, 0, none⟩)] w fun e w' => e = .returned (.int .i64 S) ∧ w = w' := by
  obtain ⟨v, h⟩ := rf_open h
  obtain ⟨c0, c1, c2, c3, c4, c5⟩ := rf_cells h
  clear h
  go_enter Tryd.func28, Tryd.ntmps28
  go_wp2
  go_ret
  exact ⟨rfl, rfl⟩
theorem rfLive_any (h : St S0 (RfA g K V S R lv lo :: l) w0 w) :
    Calls Tryd.prog 27 #[.pointer (some ⟨g, 0, none⟩)] w fun e w' => e = .returned (.int .i64 lv) ∧ w = w' := by
  obtain ⟨v, h⟩ := rf_open h
  obtain ⟨c0, c1, c2, c3, c4, c5⟩ := rf_cells h
  clear h
  go_enter Tryd.func27, Tryd.ntmps27
  go_wp2
  go_ret
  exact ⟨rfl, rfl⟩

/-- what a method that only reads finds -/
def RfR (w : World) (g : Nat) (S : Int) (A : Option Addr) (cap : Nat) (R : List Nat) (lv lo : Int) : Prop :=
  w.cell? ⟨g, 2, none⟩ = some (.int .i64 S) ∧ w.cell? ⟨g, 3, none⟩ = some (.slice A R.length cap) ∧ w.cell? ⟨g, 4, none⟩ = some (.int .i64 lv) ∧ w.cell? ⟨g, 5, none⟩ = some (.int .i64 lo) ∧ RB w w.heap.size A R ∧ R.length ≤ cap ∧ cap ≤ maxLen
theorem rf_read (h : St S0 (RfA g K V S R lv lo :: l) w0 w) : ∃ A cap, RfR w g S A cap R lv lo := by
  obtain ⟨v, h⟩ := rf_open h
  obtain ⟨c0, c1, c2, c3, c4, c5⟩ := rf_cells h
  obtain ⟨A, cap, rfl, h1, h2, h3, -⟩ := h.swap.ob.form
  exact ⟨A, cap, c2, c3, c4, c5, h3, h1, h2⟩
theorem RfR.drewN {A : Option Addr} {cap : Nat} (h : RfR w g S A cap R lv lo) (n : Nat) : RfR (w.drewN n) g S A cap R lv lo := h
theorem rfCount_any {s n : Nat} {A : Option Addr} {cap : Nat} (h : RfR w g (s : Int) A cap R lv lo) (hs : 0 < s) (hR : R.length = n * s) (hn : n ≤ 1099511627776) :
    Calls Tryd.prog 26 #[.pointer (some ⟨g, 0, none⟩)] w fun e w' => e = .returned (.int .i64 (n : Int)) ∧ ∃ q, w' = w.drewN q := by
  obtain ⟨c2, c3, -, -, -, -, hm⟩ := h
  have hq : (R.length : Int) / (s : Int) = (n : Int) := by
    rw [hR, Int.natCast_mul]
    exact Int.mul_ediv_cancel _ (by omega)
  have hz : (s : Int) ≠ 0 := by omega
  have hz1 : (1 : Int) ≤ (s : Int) := by omega
  have hz0 : (0 : Int) ≤ (R.length : Int) := by omega
  have hw : wrap64 (n : Int) = (n : Int) := rfwrap (by omega) (by omega)
  obtain ⟨m, hm0⟩ : ∃ m, m = R.length := ⟨_, rfl⟩
  rw [← hm0] at c3 hq hz0
  clear hR hm hm0
  go_enter Tryd.func26, Tryd.ntmps26
  go_wp2
  go_quiet (fail)
  go_wp2
  go_ret
  exact ⟨rfl, nq, rfl⟩
end
end Go.Proofs.YtcclcecjidlojaaDoor
