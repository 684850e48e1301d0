/- Same of the program and of the document: field by field. -/
import Derived.Test.YthnaipgdjbaebaaGreatValCheck3
import Derived.Test.YthnaipgdjbaebaaGreatValPure
import Derived.Test.YthnaipgdjbaebaaGreatRef
import Derived.Deep.Cut
import Derived.Deep.RegionHeld3
import Derived.Deep.RegionLaw
import Derived.BigRegion
import Derived.IntWalk
namespace Go.Proofs.YthnaipgdjbaebaaGreat
open Go.RowKit
set_option linter.unusedVariables false

set_option maxHeartbeats 400000 in
theorem equalI_any (A A' : Option Addr) (cap cap' B B' : Nat) (xs ys : List Int) (w : World) (h : RL ivl w B A xs) (h' : RL ivl w B' A' ys) (hl : xs.length ≤ maxLen) (hl' : ys.length ≤ maxLen) :
    Calls Tryz.prog 122 #[.slice A xs.length cap, .slice A' ys.length cap'] w (SameB (decide (xs = ys)) w) := by
  unfold maxLen at hl hl'
  by_cases h0 : xs.length = ys.length
  · have hb : ((xs.length : Int) != (ys.length : Int)) = false := by simp [h0]
    have H0 := Lib.hid h0
    have h1 : xs.length ≤ ys.length := by omega
    have h2 : ys.length ≤ xs.length := by omega
    clear h0
    go_enter Tryz.func122, Tryz.ntmps122
    go_wp2
    go_loopw [13] (fun i wr => ∃ k n : Nat, k ≤ xs.length ∧ i = .int .i64 k ∧ xs.take k = ys.take k ∧ wr = w.drewN n) (fun i _ => xs.length - (intOf i).toNat)
    case atStart => exact ⟨0, 0, Nat.zero_le _, rfl, rfl, rfl⟩
    case round =>
      obtain ⟨k, n, hk, rfl, heq, rfl⟩ := hrel
      by_cases hlt : k < xs.length
      · obtain ⟨b, off, rfl, _, hc⟩ := h.allI (by omega)
        obtain ⟨b', off', rfl, _, hc'⟩ := h'.allI (by omega)
        have q := hc k hlt
        have q' := hc' k (by omega)
        have hi0 : (0 : Int) ≤ (k : Int) := by omega
        have hi1 : (k : Int) < (xs.length : Int) := by omega
        have hi2 : (k : Int) < (ys.length : Int) := by omega
        clear hc hc'
        by_cases hne : nthI xs k = nthI ys k
        · have hb1 : (nthI xs k != nthI ys k) = false := by simp [hne]
          have Hq : Hid (xs.take (k + 1) = ys.take (k + 1)) := Lib.hid (by rw [takeI_succ hlt, takeI_succ (by omega), heq, hne])
          clear heq hne
          go_wp2
          go_quiet (fail)
          go_wp2
          go_roundw
          case rel => exact ⟨k + 1, n + nq, by omega, by go_num, Hq.out, rfl⟩
          case measure => simp [intOf]; omega
        · have hb1 : (nthI xs k != nthI ys k) = true := by simpa using hne
          have Hn : Hid (decide (xs = ys) = false) := Lib.hid (decide_eq_false (fun e => hne (by rw [e])))
          clear heq hne
          go_wp2
          go_quiet (fail)
          go_wp2
          go_ret
          exact ⟨ret_bool Hn.out.symm, n + nq, World.drewN_drewN _ _ _⟩
      · have Hn : Hid (decide (xs = ys) = true) := Lib.hid (decide_eq_true (by
          rw [List.take_of_length_le (by omega), List.take_of_length_le (by omega)] at heq; exact heq))
        clear heq
        go_wp2
        go_ret
        exact ⟨ret_bool Hn.out.symm, n, rfl⟩
  · have hb : ((xs.length : Int) != (ys.length : Int)) = true := by rw [bne_iff_ne]; omega
    have Hn : Hid (decide (xs = ys) = false) := Lib.hid (decide_eq_false (fun e => h0 (by rw [e])))
    clear h0
    go_enter Tryz.func122, Tryz.ntmps122
    go_wp2
    go_ret
    exact ⟨ret_bool Hn.out.symm, 0, rfl⟩

set_option maxHeartbeats 400000 in
theorem equalS_any (A A' : Option Addr) (cap cap' B B' : Nat) (xs ys : List ByteArray) (w : World) (h : RL svl w B A xs) (h' : RL svl w B' A' ys) (hl : xs.length ≤ maxLen) (hl' : ys.length ≤ maxLen) :
    Calls Tryz.prog 75 #[.slice A xs.length cap, .slice A' ys.length cap'] w (SameB (decide (xs = ys)) w) := by
  unfold maxLen at hl hl'
  by_cases h0 : xs.length = ys.length
  · have hb : ((xs.length : Int) != (ys.length : Int)) = false := by simp [h0]
    have H0 := Lib.hid h0
    have h1 : xs.length ≤ ys.length := by omega
    have h2 : ys.length ≤ xs.length := by omega
    clear h0
    go_enter Tryz.func75, Tryz.ntmps75
    go_wp2
    go_loopw [13] (fun i wr => ∃ k n : Nat, k ≤ xs.length ∧ i = .int .i64 k ∧ xs.take k = ys.take k ∧ wr = w.drewN n) (fun i _ => xs.length - (intOf i).toNat)
    case atStart => exact ⟨0, 0, Nat.zero_le _, rfl, rfl, rfl⟩
    case round =>
      obtain ⟨k, n, hk, rfl, heq, rfl⟩ := hrel
      by_cases hlt : k < xs.length
      · obtain ⟨b, off, rfl, _, hc⟩ := h.allS (by omega)
        obtain ⟨b', off', rfl, _, hc'⟩ := h'.allS (by omega)
        have q := hc k hlt
        have q' := hc' k (by omega)
        have hi0 : (0 : Int) ≤ (k : Int) := by omega
        have hi1 : (k : Int) < (xs.length : Int) := by omega
        have hi2 : (k : Int) < (ys.length : Int) := by omega
        clear hc hc'
        by_cases hne : nthS xs k = nthS ys k
        · have hb1 : ((nthS xs k).toList == (nthS ys k).toList) = true := by rw [hne]; exact beq_self_eq_true _
          have Hq : Hid (xs.take (k + 1) = ys.take (k + 1)) := Lib.hid (by rw [takeS_succ hlt, takeS_succ (by omega), heq, hne])
          clear heq hne
          go_wp2
          go_quiet (fail)
          go_wp2
          go_roundw
          case rel => exact ⟨k + 1, n + nq, by omega, by go_num, Hq.out, rfl⟩
          case measure => simp [intOf]; omega
        · have hb1 : ((nthS xs k).toList == (nthS ys k).toList) = false := by
            rw [beq_eq_false_iff_ne]; exact fun e => hne (str_inj e)
          have Hn : Hid (decide (xs = ys) = false) := Lib.hid (decide_eq_false (fun e => hne (by rw [e])))
          clear heq hne
          go_wp2
          go_quiet (fail)
          go_wp2
          go_ret
          exact ⟨ret_bool Hn.out.symm, n + nq, World.drewN_drewN _ _ _⟩
      · have Hn : Hid (decide (xs = ys) = true) := Lib.hid (decide_eq_true (by
          rw [List.take_of_length_le (by omega), List.take_of_length_le (by omega)] at heq; exact heq))
        clear heq
        go_wp2
        go_ret
        exact ⟨ret_bool Hn.out.symm, n, rfl⟩
  · have hb : ((xs.length : Int) != (ys.length : Int)) = true := by rw [bne_iff_ne]; omega
    have Hn : Hid (decide (xs = ys) = false) := Lib.hid (decide_eq_false (fun e => h0 (by rw [e])))
    clear h0
    go_enter Tryz.func75, Tryz.ntmps75
    go_wp2
    go_ret
    exact ⟨ret_bool Hn.out.symm, 0, rfl⟩

end Go.Proofs.YthnaipgdjbaebaaGreat
