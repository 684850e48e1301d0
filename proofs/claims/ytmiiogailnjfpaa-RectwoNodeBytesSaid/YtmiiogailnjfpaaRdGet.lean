/- The document's at of this layer. -/
import Derived.Test.YtmiiogailnjfpaaRcPureA
namespace Go.Proofs.Ytmiiogailnjfpaa
open Go.RowKit
set_option linter.unusedVariables false

set_option maxHeartbeats 1000000 in
theorem at15_any (A : Option Addr) (cap B : Nat) (bs : List Nat) (f d : Nat) (w : World) (h : RB w B A bs) (hc : bs.length ≤ cap) (hm : cap ≤ maxLen) (hf : f + d ≤ bs.length) (hd : 1 ≤ d ∧ d ≤ 4) :
    Calls Try.prog 39 #[.slice A bs.length cap, .int .i64 (f : Int), .int .i64 (d : Int)] w fun e w' => e = .returned (.int .i64 ((atN bs f d : Nat) : Int)) ∧ w = w' := by
  unfold maxLen at hm
  obtain ⟨b, off, rfl, _, _⟩ := h.all (by omega)
  have hcut := h.cut rfl f (f + d) hf (by omega)
  have hlen : ((bs.take (f + d)).drop f).length = d := by simp; omega
  have hlt := atN_lt bs h.1 f d hf hd.2
  have hv := Val_any (some ⟨b, off + f, none⟩) (cap - f) B ((bs.take (f + d)).drop f) w hcut (by omega)
  have e1 : wrap64 ((atN bs f d : Nat) : Int) = ((atN bs f d : Nat) : Int) := by rw [wrap64_eq]; omega
  rw [hlen] at hv
  have hv : Calls Try.prog 61 #[.slice (some ⟨b, off + f, none⟩) d (cap - f)] w fun e w' => e = .returned (.int .u64 ((atN bs f d : Nat) : Int)) ∧ w = w' := hv
  obtain ⟨z, hz⟩ : ∃ z, z = atN bs f d := ⟨_, rfl⟩
  rw [← hz] at hv e1 ⊢
  have HV := Lib.hid hv
  have E1 := Lib.hid e1
  clear e1
  obtain ⟨m, hm2⟩ : ∃ m, m = f + d := ⟨_, rfl⟩
  have hfd : (f : Int) + (d : Int) = (m : Int) := by omega
  have g1 : f < cap := by omega
  have g2 : m ≤ cap := by omega
  have g3 : f ≤ m := by omega
  have g4 : m - f = d := by omega
  have g5 : f < m := by omega
  clear h hcut hv hz hlt hlen hm2 hf hd hc
  go_enter Try.func39, Try.ntmps39
  go_wp2_with (go_at_call 61; (try rw [g4]); refine (HV.out).mono ?_; rintro e w1 ⟨rfl, rfl⟩)
  go_ret
  exact ⟨ret_int E1.out, rfl⟩

end Go.Proofs.Ytmiiogailnjfpaa
