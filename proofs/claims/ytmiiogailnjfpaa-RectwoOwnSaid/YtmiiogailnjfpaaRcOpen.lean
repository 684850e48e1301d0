/- How the laws' records are opened. -/
import Derived.Test.YtmiiogailnjfpaaRcPureRelA
import Derived.Test.YtmiiogailnjfpaaRcPropF
import Derived.Test.YtmiiogailnjfpaaOpen
import Derived.SliceStrings
namespace Go.Proofs.Ytmiiogailnjfpaa
open Go.ChangeShapes Go.WideShapes Go.ChangeAt Go.RowKit
set_option linter.unusedVariables false

theorem isI_of {a : Int} (h : -9223372036854775808 ≤ a ∧ a ≤ 9223372036854775807) : isI a := ⟨h.1, by omega⟩
section
variable {H : Type} {enc : TypeId × Value → H}
theorem one_int : Try.prog.cellsOf 3 = 1 := by kernel_rfl
theorem one_i64 : Try.prog.cellsOf 2 = 1 := by kernel_rfl
theorem one_bool : Try.prog.cellsOf 4 = 1 := by kernel_rfl
theorem one_ints : Try.prog.cellsOf 23 = 1 := by kernel_rfl
theorem cells_link : Try.prog.cellsOf 43 = 7 := by kernel_rfl
end
end Go.Proofs.Ytmiiogailnjfpaa
