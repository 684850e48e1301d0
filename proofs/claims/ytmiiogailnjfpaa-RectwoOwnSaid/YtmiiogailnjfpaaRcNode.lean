/- A node's record: fields, code, Write, Read, PutNode, GetNode of the program. -/
import Derived.Test.YtmiiogailnjfpaaRcLab2
import Derived.Laws.ResultCell
import Derived.Laws.Rows
namespace Go.Proofs.Ytmiiogailnjfpaa
open Go.RowKit
set_option linter.unusedVariables false

/-- a field, gone over -/
def fld (q : Cs × Bool) (width least limit x : Int) : Cs × Bool := (q.1.go width least x, q.2 || !inR least limit (q.1.val width least x))
def fval (q : Cs × Bool) (width least x : Int) : Int := q.1.val width least x
theorem fld_len (q : Cs × Bool) (width least limit x : Int) : (fld q width least limit x).1.len ≤ q.1.len + 8 := go_len _ _ _ _
theorem fld_isw (q : Cs × Bool) (width least limit x : Int) : (fld q width least limit x).1.isw = q.1.isw := go_isw _ _ _ _
def nodeQ1 (q : Cs × Bool) (r : Int) : Cs × Bool := fld q 4 (-1) 2048 r
def nodeQ2 (q : Cs × Bool) (r p : Int) : Cs × Bool := fld (nodeQ1 q r) 4 (-1) 65536 p
def nodeQ (q : Cs × Bool) (r p : Int) (L : List Int) : Cs × Bool := (labS (nodeQ2 q r p).1 (pl8 L) 8, labWr (nodeQ2 q r p).1 (nodeQ2 q r p).2 L)
def nodeR (q : Cs × Bool) (r : Int) : Int := fval q 4 (-1) r
def nodeP (q : Cs × Bool) (r p : Int) : Int := fval (nodeQ1 q r) 4 (-1) p
def nodePl (q : Cs × Bool) (r p : Int) (L : List Int) : List Int := labL (nodeQ2 q r p).1 (pl8 L) 8
/-- the slice of labels, behind them -/
def labSl (isw : Bool) (A : Option Addr) (n cap g : Nat) (Q : List Int) : Value := if isw = true then .slice A n cap else .slice (some ⟨g, 0, none⟩) (cutLen Q 8) 8

theorem labSl_form (isw : Bool) (A : Option Addr) (n cap g : Nat) (Q : List Int) : ∃ Z a b, labSl isw A n cap g Q = .slice Z a b := by
  unfold labSl
  split <;> exact ⟨_, _, _, rfl⟩
/-- a result that stands in a block, and one in a slot -/
theorem results_row_tmp {P : Program} {fn : Func} {p u : Tmp} {ty : TypeId} (h : fn.results = #[.cell p ty, .tmp u]) (tmps : Array Value) (w : World) (g : Nat) (t : TypeId) (cs : Array Value) (d : TypeDesc)
    (hp : tmps.getD p undef = .pointer (some ⟨g, 0, none⟩)) (hg : Blk w g t cs)
    (hu : P.underlying ty = some d) (hd : (match d with | .struct _ | .array _ _ => true | _ => false) = true) (hi : (P.info? ty).map (·.size) = some cs.size) :
    (results fn tmps).run P w = .ok (.tuple #[.agg cs, tmps.getD u undef]) w := by
  rw [results_cell_tmp h, hp]
  simp [asAddr, run_loadVar_row w g t ty cs (0, 0) d hg hu hd hi, Result.andThen]

section
variable {l : List Ass} {w0 w w' : World} {c : Nat} {q : Cs × Bool}
end
end Go.Proofs.Ytmiiogailnjfpaa
