/- Layer 5, the document's own answer: every float written. -/
import Derived.Test.YtdjjdhkpffjnfaaDoorNumRef5
import Derived.Test.YtdjjdhkpffjnfaaDoorNumRef6
import Derived.Test.YtdjjdhkpffjnfaaDoorNumRef7
namespace Go.Proofs.YtdjjdhkpffjnfaaDoor
open Go.RowKit
set_option linter.unusedVariables false

set_option maxRecDepth 100000 in
set_option maxHeartbeats 1000000 in
theorem refNanP (bi mi : Int) (w : World) (hbm : bi = mi) (hbb : 0 ≤ mi) (h3 : mi < 9223372036854775808) (h : 9218868437227405312 < mi) :
    Calls Tryd.prog 18 #[.int .u64 bi] w fun e w' => e = .returned (.string ⟨#[48, 120, 110, 97, 110]⟩) ∧ w = w' := by
  subst hbm
  go_enter Tryd.func18, Tryd.ntmps18
  go_wp2
  go_ret
  exact ⟨rfl, rfl⟩

set_option maxRecDepth 100000 in
set_option maxHeartbeats 1000000 in
theorem refInfP (bi mi : Int) (w : World) (hbm : bi = mi) (hbb : 0 ≤ mi) (h3 : mi < 9223372036854775808) (h : mi ≤ 9218868437227405312) (h2 : 9218868437227405312 ≤ mi) :
    Calls Tryd.prog 18 #[.int .u64 bi] w fun e w' => e = .returned (.string ⟨#[48, 120, 105, 110, 102]⟩) ∧ w = w' := by
  have e1 : (mi == 9218868437227405312) = true := by rw [beq_iff_eq]; omega
  subst hbm
  go_enter Tryd.func18, Tryd.ntmps18
  go_wp2
  go_ret
  exact ⟨rfl, rfl⟩

set_option maxRecDepth 100000 in
set_option maxHeartbeats 1000000 in
theorem refZeroP (bi mi : Int) (w : World) (hbm : bi = mi) (hbb : 0 ≤ mi) (h3 : mi < 9223372036854775808) (h : mi ≤ 0) (h2 : 0 ≤ mi) :
    Calls Tryd.prog 18 #[.int .u64 bi] w fun e w' => e = .returned (.string ⟨#[48, 120, 48]⟩) ∧ w = w' := by
  have e1 : (mi == 9218868437227405312) = false := by rw [beq_eq_false_iff_ne]; omega
  have e2 : (mi == 0) = true := by rw [beq_iff_eq]; omega
  have e4 : mi ≤ 9218868437227405312 := by omega
  subst hbm
  go_enter Tryd.func18, Tryd.ntmps18
  go_wp2
  go_ret
  exact ⟨rfl, rfl⟩

set_option maxRecDepth 100000 in
set_option maxHeartbeats 1000000 in
theorem refNanN (bi mi : Int) (w : World) (hbm : bi - 9223372036854775808 = mi) (hbb : 9223372036854775808 ≤ bi) (hbb2 : bi ≤ 18446744073709551615) (h : 9218868437227405312 < mi) :
    Calls Tryd.prog 18 #[.int .u64 bi] w fun e w' => e = .returned (.string ⟨#[48, 120, 110, 97, 110]⟩) ∧ w = w' := by
  go_enter Tryd.func18, Tryd.ntmps18
  go_wp2
  go_ret
  exact ⟨rfl, rfl⟩

set_option maxRecDepth 100000 in
set_option maxHeartbeats 1000000 in
theorem refInfN (bi mi : Int) (w : World) (hbm : bi - 9223372036854775808 = mi) (hbb : 9223372036854775808 ≤ bi) (hbb2 : bi ≤ 18446744073709551615) (h : mi ≤ 9218868437227405312) (h2 : 9218868437227405312 ≤ mi) :
    Calls Tryd.prog 18 #[.int .u64 bi] w fun e w' => e = .returned (.string ⟨#[45, 48, 120, 105, 110, 102]⟩) ∧ w = w' := by
  have e1 : (mi == 9218868437227405312) = true := by rw [beq_iff_eq]; omega
  go_enter Tryd.func18, Tryd.ntmps18
  go_wp2
  go_ret
  exact ⟨rfl, rfl⟩

set_option maxRecDepth 100000 in
set_option maxHeartbeats 1000000 in
theorem refZeroN (bi mi : Int) (w : World) (hbm : bi - 9223372036854775808 = mi) (hbb : 9223372036854775808 ≤ bi) (hbb2 : bi ≤ 18446744073709551615) (h : mi ≤ 0) (h2 : 0 ≤ mi) :
    Calls Tryd.prog 18 #[.int .u64 bi] w fun e w' => e = .returned (.string ⟨#[45, 48, 120, 48]⟩) ∧ w = w' := by
  have e1 : (mi == 9218868437227405312) = false := by rw [beq_eq_false_iff_ne]; omega
  have e2 : (mi == 0) = true := by rw [beq_iff_eq]; omega
  have e4 : mi ≤ 9218868437227405312 := by omega
  go_enter Tryd.func18, Tryd.ntmps18
  go_wp2
  go_ret
  exact ⟨rfl, rfl⟩

theorem refFormatFloat (b : Nat) (w : World) (h : b < 18446744073709551616) :
    Calls Tryd.prog 18 #[.int .u64 b] w fun e w' => e = .returned (.string ⟨(formF b).toArray⟩) ∧ Below w.heap.size w w' := by
  by_cases hneg : 9223372036854775808 ≤ b
  · have hm : ((b : Int) - 9223372036854775808) = ((b % 9223372036854775808 : Nat) : Int) := by omega
    by_cases hnan : 9218868437227405312 < b % 9223372036854775808
    · exact (refNanN b _ w hm (by omega) (by omega) (by omega)).mono fun e w' ⟨he, hw⟩ => ⟨by rw [he, formF_nan hnan]; rfl, hw ▸ Below.refl _ _⟩
    · rw [formF_neg hnan hneg]
      by_cases hinf : b % 9223372036854775808 = 9218868437227405312
      · rw [hinf, magT_inf]
        exact (refInfN b _ w hm (by omega) (by omega) (by omega) (by omega)).mono fun e w' ⟨he, hw⟩ => ⟨he, hw ▸ Below.refl _ _⟩
      · by_cases hz : b % 9223372036854775808 = 0
        · rw [hz, magT_zero]
          exact (refZeroN b _ w hm (by omega) (by omega) (by omega) (by omega)).mono fun e w' ⟨he, hw⟩ => ⟨he, hw ▸ Below.refl _ _⟩
        · by_cases hs : b % 9223372036854775808 < 4503599627370496
          · exact refFloatNS b _ (b % 9223372036854775808) w rfl hm (by omega) (by omega)
          · exact refFloatNB b _ (b % 9223372036854775808) w rfl hm (by omega) (by omega) (by omega)
  · have hm : (b : Int) = ((b % 9223372036854775808 : Nat) : Int) := by omega
    by_cases hnan : 9218868437227405312 < b % 9223372036854775808
    · exact (refNanP b _ w hm (by omega) (by omega) (by omega)).mono fun e w' ⟨he, hw⟩ => ⟨by rw [he, formF_nan hnan]; rfl, hw ▸ Below.refl _ _⟩
    · rw [formF_pos hnan hneg]
      by_cases hinf : b % 9223372036854775808 = 9218868437227405312
      · rw [hinf, magT_inf]
        exact (refInfP b _ w hm (by omega) (by omega) (by omega) (by omega)).mono fun e w' ⟨he, hw⟩ => ⟨he, hw ▸ Below.refl _ _⟩
      · by_cases hz : b % 9223372036854775808 = 0
        · rw [hz, magT_zero]
          exact (refZeroP b _ w hm (by omega) (by omega) (by omega) (by omega)).mono fun e w' ⟨he, hw⟩ => ⟨he, hw ▸ Below.refl _ _⟩
        · by_cases hs : b % 9223372036854775808 < 4503599627370496
          · exact refFloatPS b _ (b % 9223372036854775808) w rfl hm (by omega) (by omega)
          · exact refFloatPB b _ (b % 9223372036854775808) w rfl hm (by omega) (by omega) (by omega)
end Go.Proofs.YtdjjdhkpffjnfaaDoor
