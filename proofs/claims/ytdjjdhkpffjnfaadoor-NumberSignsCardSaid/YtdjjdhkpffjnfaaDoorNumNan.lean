/- Layer 5: which bits are no number. -/
import Derived.Test.YtdjjdhkpffjnfaaDoorNumRef2
namespace Go.Proofs.YtdjjdhkpffjnfaaDoor
open Go.RowKit
set_option linter.unusedVariables false

theorem shl_one {b : Nat} (h : b < 18446744073709551616) : IntKind.u64.wrap ((b : Int) * 2) = ((b % 9223372036854775808 * 2 : Nat) : Int) := by
  rw [IntKind.wrap_u64]; omega
set_option maxRecDepth 100000 in
set_option maxHeartbeats 1000000 in
theorem nan_any (b : Nat) (w : World) (h : b < 18446744073709551616) : Calls Tryd.prog 21 #[.int .u64 b] w fun e w' => e = .returned (.bool (decide (9218868437227405312 < b % 9223372036854775808))) ∧ w = w' := by
  have e1 := shl_one h
  obtain ⟨x, hx⟩ : ∃ x : Int, x = (b : Int) := ⟨_, rfl⟩
  obtain ⟨y, hy⟩ : ∃ y : Int, y = ((b % 9223372036854775808 * 2 : Nat) : Int) := ⟨_, rfl⟩
  rw [← hx, ← hy] at e1
  rw [← hx]
  by_cases hn : 9218868437227405312 < b % 9223372036854775808
  · have h1 : (18437736874454810624 : Int) < y := by omega
    rw [decide_eq_true hn]
    clear hn hx hy h
    go_enter Tryd.func21, Tryd.ntmps21
    go_wp2
    go_ret
    exact ⟨rfl, rfl⟩
  · have h1 : y ≤ (18437736874454810624 : Int) := by omega
    rw [decide_eq_false hn]
    clear hn hx hy h
    go_enter Tryd.func21, Tryd.ntmps21
    go_wp2
    go_ret
    exact ⟨ret_bool' (by first | rfl | exact decide_eq_false (by omega)), rfl⟩
end Go.Proofs.YtdjjdhkpffjnfaaDoor
