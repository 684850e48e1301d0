/- slots: what the cards' rows lay: utf8's tables (no walk reads them). -/
import Derived.Test.YtgpahglmhnnobaaDoorCards
import Derived.Test.YtgpahglmhnnobaaDoorTie
import Derived.Test.YtgpahglmhnnobaaDoorRows
import Derived.Test.YtgpahglmhnnobaaDoorOpen
import Derived.Deep.DeepHandedRow
import Derived.Deep.DeepLaidRun
import Derived.Lib.LaidTab
import Derived.Shelf.Vars
namespace Go.Proofs.YtgpahglmhnnobaaDoor
open Go.ChangeShapes Go.WideShapes Go.ChangeAt Go.RowKit
set_option linter.unusedVariables false

/-- the cells of a table that is laid -/
def rowCells : DataW Unit → Array Value
  | .agg l => (l.map fun d => match d with
    | .lit (.int k n) => [Value.int k n]
    | .agg m => m.map fun d => match d with
      | .lit (.int k n) => Value.int k n
      | _ => Value.int .u8 0
    | _ => []).flatten.toArray
  | _ => #[]
def setRow (h : Array Obj) (g : Nat) (cs : Array Value) : Array Obj := h.modify g fun | .cells _ t frozen => .cells cs t frozen | o => o
/-- a world for the witness: the settled one, the tables holding what their initialisers lay -/
noncomputable def heap0 (os : Os) : Array Obj := (World.holding Tryd.prog os ⟨#[], #[], []⟩).heap
noncomputable def heap1 (os : Os) : Array Obj := setRow (heap0 os) 1 (rowCells Rows.laid_unicode_utf8_acceptRanges)
noncomputable def heap2 (os : Os) : Array Obj := setRow (heap1 os) 0 (rowCells Rows.laid_unicode_utf8_first)
noncomputable def laidWorld (os : Os) : World := { World.holding Tryd.prog os ⟨#[], #[], []⟩ with heap := heap2 os }
set_option maxRecDepth 100000 in
theorem laid_met0 (os : Os) : laidMet Tryd.prog Rows.slotsNamesRow.laid ((laidWorld os).forCall (fun _ _ => 0) ⟨#[], #[], []⟩).memory :=
  laidMet_of_run3 8 (by kernel_rfl) (by kernel_rfl) (by kernel_rfl)
end Go.Proofs.YtgpahglmhnnobaaDoor
