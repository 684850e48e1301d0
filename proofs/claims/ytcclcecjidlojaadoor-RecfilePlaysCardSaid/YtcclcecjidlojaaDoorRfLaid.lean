/- recfile: what the listed variables hold, and a world in which they hold it. -/
import Derived.Test.YtcclcecjidlojaaDoorRows
import Derived.Test.YtcclcecjidlojaaDoorCrc
import Derived.Test.YtcclcecjidlojaaDoorOpen
import Derived.LaidLaws
import Derived.Deep.DeepLaidRun
import Derived.Lib.LaidTab
import Derived.KernelRfl
namespace Go.Proofs.YtcclcecjidlojaaDoor
open Go.ChangeShapes Go.WideShapes Go.ChangeAt Go.RowKit
set_option linter.unusedVariables false

theorem gnNib : Tryd.prog.globalNamed "satchel/crc.nibbles" = some 0 := by kernel_rfl
theorem gtNib : (Tryd.prog.globals[0]?).map (·.type) = some 116 := by kernel_rfl
theorem ceU32 : Tryd.prog.cellsOf 78 = 1 := by kernel_rfl
theorem ceNib : Tryd.prog.cellsOf 116 = 16 := by kernel_rfl
theorem tabs_of {W : World} (hL : laidMetH Tryd.prog Rows.recfileNamesRow.laid W) : TabW W := by
  have h0 : laidMet Tryd.prog Rows.recfileNamesRow.laid W := hL
  exact tabW_of fun i hi => (Lib.tabIs_of_head (k := .u32) (zs := [0, 498536548, 997073096, 651767980, 1994146192, 1802195444, 1303535960, 1342533948, 3988292384, 4027552580, 3604390888, 3412177804, 2607071920, 2262029012, 2685067896, 3183342108]) gnNib gtNib Tryd.underlying116 Tryd.underlying78 ceU32 ceNib h0).cell gnNib i hi

/-- the cells of a table that is laid -/
def rowCells : DataW Unit → Array Value
  | .agg l => (l.map fun d => match d with
    | .lit (.int k n) => [Value.int k n]
    | .agg m => m.map fun d => match d with
      | .lit (.int k n) => Value.int k n
      | _ => Value.int .u8 0
    | _ => []).flatten.toArray
  | _ => #[]
def setRow (h : Array Obj) (g : Nat) (cs : Array Value) : Array Obj := h.modify g fun | .cells _ t frozen => .cells cs t frozen | o => o
/-- a world for the witness: the settled one, the tables holding what their initialisers lay -/
noncomputable def heap0 (os : Os) : Array Obj := (World.holding Tryd.prog os ⟨#[], #[], []⟩).heap
noncomputable def heap1 (os : Os) : Array Obj := setRow (heap0 os) 0 (rowCells Rows.laid_satchel_crc_nibbles)
noncomputable def heap2 (os : Os) : Array Obj := setRow (heap1 os) 2 (rowCells Rows.laid_unicode_utf8_acceptRanges)
noncomputable def heap3 (os : Os) : Array Obj := setRow (heap2 os) 1 (rowCells Rows.laid_unicode_utf8_first)
noncomputable def laidWorldN (os : Os) : World := { World.holding Tryd.prog os ⟨#[], #[], []⟩ with heap := heap3 os }
set_option maxRecDepth 100000 in
theorem laid_met0 (os : Os) : laidMet Tryd.prog Rows.recfileNamesRow.laid ((laidWorldN os).forCall (fun _ _ => 0) ⟨#[], #[], []⟩).memory :=
  laidMet_of_run3 8 (by kernel_rfl) (by kernel_rfl) (by kernel_rfl)
end Go.Proofs.YtcclcecjidlojaaDoor
