/- recfile: the law's 'alike' of a file and the document's file. -/
import Derived.Test.YtcclcecjidlojaaDoorRfD4
import Derived.Deep.QuietTactic
import Derived.BigQuiet
namespace Go.Proofs.YtcclcecjidlojaaDoor
open Go.RowKit
set_option linter.unusedVariables false
section
variable {S0 : Fp} {l : List Ass} {w0 w : World} {g m : Nat} {K V : Int} {L : List Rc} {R : List Nat}
set_option maxRecDepth 100000 in
set_option maxHeartbeats 1000000 in
theorem alike_yes [Stable (Sep l)] {s n : Nat} {lv lo : Int} (h : St S0 (RfA g K V (s : Int) R lv lo :: DfA m K V (s : Int) L :: l) w0 w) (hs : 0 < s) (hR : R.length = n * s) (hn : n ≤ 65536) (hL : L.length = n) (hlv : lv = ((liveL L n : Nat) : Int)) :
    Calls Tryd.prog 14 #[.pointer (some ⟨g, 0, none⟩), .pointer (some ⟨m, 0, none⟩)] w fun e w' => e = .returned (.bool true) ∧ ∃ q, w' = w.drewN q := by
  obtain ⟨A, cap, c0, c1, c2, c3⟩ := df_head h.swap
  rw [hL] at c3
  have HK := fun q => Lib.hid (rfKind_any (h.drewN q))
  have HV := fun q => Lib.hid (rfVersion_any (h.drewN q))
  have HS := fun q => Lib.hid (rfSize_any (h.drewN q))
  have HL := fun q => Lib.hid (rfLive_any (h.drewN q))
  have HC := fun q => Lib.hid (by
    obtain ⟨A, cap, hr⟩ := rf_read (h.drewN q)
    exact rfCount_any hr hs hR (by omega))
  have HM := fun q => Lib.hid (refLive_st (h.drewN q).swap (by omega))
  rw [hL, ← hlv] at HM
  clear h hs hR hn hL hlv
  go_enter Tryd.func14, Tryd.ntmps14
  go_wp2
  go_quiet ((first
    | (go_at_call 37; exact Calls.quiet_of_same ((HK _).out.mono fun e w' h => ⟨h.1, h.2.symm⟩))
    | (go_at_call 38; exact Calls.quiet_of_same ((HV _).out.mono fun e w' h => ⟨h.1, h.2.symm⟩))
    | (go_at_call 28; exact Calls.quiet_of_same ((HS _).out.mono fun e w' h => ⟨h.1, h.2.symm⟩))
    | (go_at_call 27; exact Calls.quiet_of_same ((HL _).out.mono fun e w' h => ⟨h.1, h.2.symm⟩))
    | (go_at_call 26; exact Calls.quiet_of ((HC _).out))
    | (go_at_call 39; exact Calls.quiet_of_same ((HM _).out.mono fun e w' h => ⟨h.1, h.2.symm⟩))))
  go_wp2
  go_ret
  exact ⟨rfl, nq, rfl⟩
end
end Go.Proofs.YtcclcecjidlojaaDoor
