/- A rel's record: Read, Get of the program. Written by mkrc.py. -/
import Derived.Test.YtmiiogailnjfpaaRcRel
namespace Go.Proofs.Ytmiiogailnjfpaa
open Go.RowKit
set_option linter.unusedVariables false
/-- what GetRel finds -/
def getRelQ (bs : List Nat) : Cs × Bool := relQ (.r bs 0, false) ⟨true, 0, 0, 0, 0, 0, 0, 0, 0⟩
def getRelE (bs : List Nat) : Int := (getRelQ bs).1.endE (getRelQ bs).2
def getRelV (bs : List Nat) : RelC := relV (.r bs 0, false) ⟨true, 0, 0, 0, 0, 0, 0, 0, 0⟩
def RelReadB (y : RelC) (E : Int) (w : World) (e : Ending) (w' : World) : Prop :=
  e = .returned (.tuple #[if E = 0 then .agg #[.bool true, .int .i64 y.fr, .int .i64 y.to, .int .i64 y.fp, .int .i64 y.tp, .int .i64 y.fn, .int .i64 y.tn, .int .i64 y.ty, .int .i64 y.pr] else .agg #[.bool false, .int .i64 0, .int .i64 0, .int .i64 0, .int .i64 0, .int .i64 0, .int .i64 0, .int .i64 0, .int .i64 0], .int .i64 E]) ∧ St Zf [] w w'
def RelRead (bs : List Nat) (w : World) (e : Ending) (w' : World) : Prop := RelReadB (getRelV bs) (getRelE bs) w e w'

end Go.Proofs.Ytmiiogailnjfpaa
