/- The document's LabelsRight, LabelBytes, SameInts. -/
import Derived.Test.YtpkkphpopdeijaaRcPureNode
import Derived.Test.YtpkkphpopdeijaaRcRef4
import Derived.Test.YtpkkphpopdeijaaApList
namespace Go.Proofs.Ytpkkphpopdeijaa
open Go.RowKit
set_option linter.unusedVariables false

def prevI (L : List Int) (k : Nat) : Int := if k = 0 then -1 else nthI L (k - 1)
set_option maxRecDepth 100000 in
set_option maxHeartbeats 4000000 in
theorem LabelsRight_any (A : Option Addr) (cap B : Nat) (L : List Int) (w : World) (h : RL ivl w B A L) (hc : L.length ≤ cap) (hm : cap ≤ maxLen) :
    Calls Try.prog 29 #[.slice A L.length cap] w fun e w' => e = .returned (.bool (labR L)) ∧ ∃ n, w' = w.drewN n := by
  unfold maxLen at hm
  unfold labR
  go_enter Try.func29, Try.ntmps29
  go_wp2
  go_loopw [3] (fun i wr => ∃ k : Nat, k ≤ L.length ∧ i = .int .i64 k ∧ okTo (prevI L k) (L.drop k) = okTo (-1) L ∧ Hid (∃ n, wr = w.drewN n)) (fun i _ => L.length - (intOf i).toNat)
  case atStart => exact ⟨0, Nat.zero_le _, rfl, rfl, Lib.hid ⟨0, rfl⟩⟩
  case round =>
    obtain ⟨k, hk, rfl, heq, HW⟩ := hrel
    have h : RL ivl wr B A L := by obtain ⟨n, hn⟩ := HW.out; rw [hn]; exact h
    have HX : Hid (∀ m, ∃ n, wr.drewN m = w.drewN n) := Lib.hid fun m => by obtain ⟨n, hn⟩ := HW.out; exact ⟨n + m, by rw [hn]; exact World.drewN_drewN _ _ _⟩
    by_cases hlt : k < L.length
    · obtain ⟨b, off, rfl, hb, hcell⟩ := h.allI (by omega)
      have hc1 := hcell k hlt
      rw [dropI hlt, okTo] at heq
      have hnx : prevI L (k + 1) = nthI L k := by unfold prevI; rw [if_neg (by omega)]; rfl
      obtain ⟨x, hx⟩ : ∃ x, x = nthI L k := ⟨_, rfl⟩
      rw [← hx] at hc1 heq hnx
      have HI := fun w1 => Lib.hid (In_any x 0 200 w1)
      obtain ⟨bx, hbx⟩ : ∃ b, b = inR 0 200 x := ⟨_, rfl⟩
      rw [← hbx] at HI heq
      cases bx
      · have Hn : Hid ((false : Bool) = (okTo (-1) L && decide (L.length < 9))) := Lib.hid (by rw [← heq]; rfl)
        clear heq hbx hx hcell hnx
        go_wp2
        go_quiet ((go_at_call 28; exact Calls.quiet_of_same ((HI _).out.mono fun e w' h => ⟨h.1, h.2.symm⟩)))
        go_wp2
        go_ret
        exact ⟨ret_bool Hn.out, HX.out _⟩
      · have hx0 : 0 ≤ x := ((inR_iff 0 200 x).1 hbx.symm).1
        by_cases hk0 : k = 0
        · have Hn : Hid (okTo (prevI L (k + 1)) (L.drop (k + 1)) = okTo (-1) L) := Lib.hid (by
            rw [hnx, ← heq]
            unfold prevI
            rw [if_pos hk0, decide_eq_true (by omega : (-1 : Int) < x)]
            rfl)
          have hneg : decide ((0 : Int) < (k : Int)) = false := decide_eq_false (by omega)
          have hneg' : decide (0 < k) = false := decide_eq_false (by omega)
          clear hk0
          clear heq hbx hx hcell hnx hx0
          go_wp2
          go_quiet ((go_at_call 28; exact Calls.quiet_of_same ((HI _).out.mono fun e w' h => ⟨h.1, h.2.symm⟩)))
          go_wp2
          go_roundw
          case rel => exact ⟨k + 1, by omega, by go_num, Hn.out, Lib.hid (HX.out _)⟩
          case measure => simp [intOf]; omega
        · have hc2 := hcell (k - 1) (by omega)
          have hpv : prevI L k = nthI L (k - 1) := by unfold prevI; rw [if_neg hk0]
          obtain ⟨m, hmk⟩ : ∃ m, m = k - 1 := ⟨_, rfl⟩
          rw [← hmk] at hc2 hpv
          obtain ⟨y, hy⟩ : ∃ y, y = nthI L m := ⟨_, rfl⟩
          rw [← hy] at hc2 hpv
          have hp : (k : Int) - 1 = (m : Int) := by omega
          have hpos : decide ((0 : Int) < (k : Int)) = true := decide_eq_true (by omega)
          have hpos' : decide (0 < k) = true := decide_eq_true (by omega)
          have hz0 : 0 < k := by omega
          have hml : m < L.length := by omega
          rw [hpv] at heq
          by_cases hxy : x ≤ y
          · have Hn : Hid ((false : Bool) = (okTo (-1) L && decide (L.length < 9))) := Lib.hid (by rw [← heq, decide_eq_false (by omega : ¬ y < x)]; rfl)
            clear heq hbx hx hcell hnx hx0 hpv hy hmk
            go_wp2
            go_quiet ((go_at_call 28; exact Calls.quiet_of_same ((HI _).out.mono fun e w' h => ⟨h.1, h.2.symm⟩)))
            go_wp2
            go_ret
            exact ⟨ret_bool Hn.out, HX.out _⟩
          · have Hn : Hid (okTo (prevI L (k + 1)) (L.drop (k + 1)) = okTo (-1) L) := Lib.hid (by rw [hnx, ← heq, decide_eq_true (by omega : y < x)]; rfl)
            clear heq hbx hx hcell hnx hx0 hpv hy hmk
            go_wp2
            go_quiet ((go_at_call 28; exact Calls.quiet_of_same ((HI _).out.mono fun e w' h => ⟨h.1, h.2.symm⟩)))
            go_wp2
            go_roundw
            case rel => exact ⟨k + 1, by omega, by go_num, Hn.out, Lib.hid (HX.out _)⟩
            case measure => simp [intOf]; omega
    · have Hn : Hid (decide ((L.length : Int) < 9) = (okTo (-1) L && decide (L.length < 9))) := Lib.hid (by
        rw [List.drop_of_length_le (by omega)] at heq
        rw [← heq]
        show _ = (true && decide (L.length < 9))
        rw [Bool.true_and, Bool.eq_iff_iff]
        simp only [decide_eq_true_eq]
        omega)
      clear heq
      go_wp2
      go_ret
      exact ⟨ret_bool Hn.out, HW.out⟩
end Go.Proofs.Ytpkkphpopdeijaa
