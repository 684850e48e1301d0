/- Layer 5: what the listed variables of the library hold, and a world in which they hold it. -/
import Derived.Test.YtdjjdhkpffjnfaaDoorRows
import Derived.Test.YtdjjdhkpffjnfaaDoorNumFmt
import Derived.Test.YtdjjdhkpffjnfaaDoorOpen
import Derived.LaidLaws
import Derived.Stop.LaidErr
import Derived.Deep.DeepLaidRun
import Derived.Lib.LaidTab
import Derived.KernelRfl
namespace Go.Proofs.YtdjjdhkpffjnfaaDoor
open Go.ChangeShapes Go.WideShapes Go.ChangeAt Go.RowKit
set_option linter.unusedVariables false

theorem gnDe : Tryd.prog.globalNamed "math/bits.deBruijn64tab" = some 5 := by kernel_rfl
theorem gtDe : (Tryd.prog.globals[5]?).map (·.type) = some 117 := by kernel_rfl
theorem gtPow : (Tryd.prog.globals[0]?).map (·.type) = some 82 := by kernel_rfl
theorem gtEs : (Tryd.prog.globals[1]?).map (·.type) = some 43 := by kernel_rfl
theorem gtEr : (Tryd.prog.globals[2]?).map (·.type) = some 43 := by kernel_rfl
theorem ceU8 : Tryd.prog.cellsOf 5 = 1 := by kernel_rfl
theorem ceU64 : Tryd.prog.cellsOf 31 = 1 := by kernel_rfl
theorem ceStr : Tryd.prog.cellsOf 9 = 1 := by kernel_rfl
theorem ceEs : Tryd.prog.cellsOf 108 = 1 := by kernel_rfl
theorem ceDe : Tryd.prog.cellsOf 117 = 64 := by kernel_rfl
theorem cePow : Tryd.prog.cellsOf 82 = 20 := by kernel_rfl
theorem errStar : "*" ++ "errors.errorString" = "*errors.errorString" := by decide
theorem errRow (u : TypeId) (h : Tryd.prog.typeName? 3 u = some "*errors.errorString") : u = 106 :=
  typeName_ptr_named (nm := "errors.errorString") (by rw [errStar]; kernel_rfl) (by kernel_rfl) (by decide) u (by rw [errStar]; exact h)

theorem tabs_of {W : World} (hL : laidMetH Tryd.prog Rows.numberNamesRow.laid W) : Tabs W := by
  have h0 : laidMet Tryd.prog Rows.numberNamesRow.laid W := hL
  have h1 := laidMet.tail (h0 : laidMet Tryd.prog (_ :: _) W)
  have h2 := laidMet.tail h1
  have h3 := laidMet.tail h2
  have h4 := laidMet.tail h3
  have h5 := laidMet.tail h4
  refine ⟨?_, ?_, ?_, ?_⟩
  · exact Lib.tabIs_of_head gnPow gtPow Tryd.underlying82 Tryd.underlying31 ceU64 cePow h2
  · have := (Lib.tabIs_of_head (k := .u8) (zs := [0, 1, 56, 2, 57, 49, 28, 3, 61, 58, 42, 50, 38, 29, 17, 4, 62, 47, 59, 36, 45, 43, 51, 22, 53, 39, 33, 30, 24, 18, 12, 5, 63, 55, 48, 27, 60, 41, 37, 16, 46, 35, 44, 21, 52, 32, 23, 11, 54, 26, 40, 15, 34, 20, 31, 10, 25, 14, 19, 9, 13, 8, 7, 6])
      gnDe gtDe Tryd.underlying117 Tryd.underlying5 ceU8 ceDe h1).cell gnDe 15 (by decide)
    exact this
  · obtain ⟨a, s, h, _⟩ := laid_sentinel (te := 108) (ts := 9) h5 gnEs gtEs Tryd.underlying43 errRow Tryd.underlying106 Tryd.underlying108 rfl rfl Tryd.underlying9 ceEs ceStr
    exact ⟨_, _, h⟩
  · obtain ⟨a, s, h, _⟩ := laid_sentinel (te := 108) (ts := 9) h4 gnEr gtEr Tryd.underlying43 errRow Tryd.underlying106 Tryd.underlying108 rfl rfl Tryd.underlying9 ceEs ceStr
    exact ⟨_, _, h⟩

/-- the cells of a table that is laid -/
def rowCells : DataW Unit → Array Value
  | .agg l => (l.map fun d => match d with
    | .lit (.int k n) => [Value.int k n]
    | .agg m => m.map fun d => match d with
      | .lit (.int k n) => Value.int k n
      | _ => Value.int .u8 0
    | _ => []).flatten.toArray
  | _ => #[]
def setRow (h : Array Obj) (g : Nat) (cs : Array Value) : Array Obj := h.modify g fun | .cells _ t frozen => .cells cs t frozen | o => o
/-- a world for the witness: the settled one, the tables and errors holding what their initialisers lay -/
noncomputable def heap0 (os : Os) : Array Obj := (World.holding Tryd.prog os ⟨#[], #[], []⟩).heap
noncomputable def heap1 (os : Os) : Array Obj := setRow (heap0 os) 4 (rowCells Rows.laid_math_bits_deBruijn32tab)
noncomputable def heap2 (os : Os) : Array Obj := setRow (heap1 os) 5 (rowCells Rows.laid_math_bits_deBruijn64tab)
noncomputable def heap3 (os : Os) : Array Obj := setRow (heap2 os) 0 (rowCells Rows.laid_internal_strconv_uint64pow10)
noncomputable def heap4 (os : Os) : Array Obj := setRow (heap3 os) 7 (rowCells Rows.laid_unicode_utf8_acceptRanges)
noncomputable def heap5 (os : Os) : Array Obj := setRow (heap4 os) 6 (rowCells Rows.laid_unicode_utf8_first)
noncomputable def heap6 (os : Os) : Array Obj := setRow (heap5 os) 2 #[.iface 106 (.pointer (some ⟨(heap0 os).size, 0, none⟩))]
noncomputable def heap7 (os : Os) : Array Obj := setRow (heap6 os) 1 #[.iface 106 (.pointer (some ⟨(heap0 os).size + 1, 0, none⟩))]
noncomputable def heap8 (os : Os) : Array Obj := (heap7 os).push (.cells #[.string ⟨#[118, 97, 108, 117, 101, 32, 111, 117, 116, 32, 111, 102, 32, 114, 97, 110, 103, 101]⟩] 108 (0, 0))
noncomputable def heap9 (os : Os) : Array Obj := (heap8 os).push (.cells #[.string ⟨#[105, 110, 118, 97, 108, 105, 100, 32, 115, 121, 110, 116, 97, 120]⟩] 108 (0, 0))
noncomputable def laidWorldN (os : Os) : World := { World.holding Tryd.prog os ⟨#[], #[], []⟩ with heap := heap9 os }
set_option maxRecDepth 100000 in
theorem laid_met0 (os : Os) : laidMet Tryd.prog Rows.numberNamesRow.laid ((laidWorldN os).forCall (fun _ _ => 0) ⟨#[], #[], []⟩).memory :=
  laidMet_of_run3 8 (by kernel_rfl) (by kernel_rfl) (by kernel_rfl)
end Go.Proofs.YtdjjdhkpffjnfaaDoor
