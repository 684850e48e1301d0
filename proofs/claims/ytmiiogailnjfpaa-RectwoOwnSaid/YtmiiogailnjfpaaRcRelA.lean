/- A rel's record: code, Write, Read, Put, Get of the program. Written by mkrc.py. -/
import Derived.Test.YtmiiogailnjfpaaRcRelF
import Derived.Test.YtmiiogailnjfpaaRcNode2
namespace Go.Proofs.Ytmiiogailnjfpaa
open Go.RowKit
set_option linter.unusedVariables false

theorem cellsrel {S : Fp} {l : List Ass} {w0 w : World} {g : Nat} {t : TypeId} {a0 a1 a2 a3 a4 a5 a6 a7 a8 : Value} (h : St S (BlkA g t #[a0, a1, a2, a3, a4, a5, a6, a7, a8] :: l) w0 w) : w.cell? ⟨g, 0, none⟩ = some a0 ∧ w.cell? ⟨g, 1, none⟩ = some a1 ∧ w.cell? ⟨g, 2, none⟩ = some a2 ∧ w.cell? ⟨g, 3, none⟩ = some a3 ∧ w.cell? ⟨g, 4, none⟩ = some a4 ∧ w.cell? ⟨g, 5, none⟩ = some a5 ∧ w.cell? ⟨g, 6, none⟩ = some a6 ∧ w.cell? ⟨g, 7, none⟩ = some a7 ∧ w.cell? ⟨g, 8, none⟩ = some a8 := by
  have hb := h.blk
  exact ⟨by rw [hb.cell 0]; rfl, by rw [hb.cell 1]; rfl, by rw [hb.cell 2]; rfl, by rw [hb.cell 3]; rfl, by rw [hb.cell 4]; rfl, by rw [hb.cell 5]; rfl, by rw [hb.cell 6]; rfl, by rw [hb.cell 7]; rfl, by rw [hb.cell 8]; rfl⟩
theorem frozrel {S : Fp} {l : List Ass} {w0 w : World} {g : Nat} {t : TypeId} {cs : Array Value} (h : St S (BlkA g t cs :: l) w0 w) : w.frozen? ⟨g, 0, none⟩ = false ∧ w.frozen? ⟨g, 1, none⟩ = false ∧ w.frozen? ⟨g, 2, none⟩ = false ∧ w.frozen? ⟨g, 3, none⟩ = false ∧ w.frozen? ⟨g, 4, none⟩ = false ∧ w.frozen? ⟨g, 5, none⟩ = false ∧ w.frozen? ⟨g, 6, none⟩ = false ∧ w.frozen? ⟨g, 7, none⟩ = false ∧ w.frozen? ⟨g, 8, none⟩ = false := by
  have hb := h.blk
  exact ⟨hb.frozen 0, hb.frozen 1, hb.frozen 2, hb.frozen 3, hb.frozen 4, hb.frozen 5, hb.frozen 6, hb.frozen 7, hb.frozen 8⟩
section
variable {l : List Ass} {w0 w w' : World} {c : Nat} {q : Cs × Bool}
end

/-- what PutRel finds -/
def putRelQ (x : RelC) : Cs × Bool := relQ (.w [], false) x
def putRelE (x : RelC) : Int := (putRelQ x).1.endE (putRelQ x).2

end Go.Proofs.Ytmiiogailnjfpaa

/- A rel's record: Read, Get of the program. Written by mkrc.py. -/
namespace Go.Proofs.Ytmiiogailnjfpaa
open Go.RowKit
set_option linter.unusedVariables false
/-- what GetRel finds -/
def getRelQ (bs : List Nat) : Cs × Bool := relQ (.r bs 0, false) ⟨true, 0, 0, 0, 0, 0, 0, 0, 0⟩
def getRelE (bs : List Nat) : Int := (getRelQ bs).1.endE (getRelQ bs).2
def getRelV (bs : List Nat) : RelC := relV (.r bs 0, false) ⟨true, 0, 0, 0, 0, 0, 0, 0, 0⟩
def RelReadB (y : RelC) (E : Int) (w : World) (e : Ending) (w' : World) : Prop :=
  e = .returned (.tuple #[if E = 0 then .agg #[.bool true, .int .i64 y.fr, .int .i64 y.to, .int .i64 y.fp, .int .i64 y.tp, .int .i64 y.fn, .int .i64 y.tn, .int .i64 y.ty, .int .i64 y.pr] else .agg #[.bool false, .int .i64 0, .int .i64 0, .int .i64 0, .int .i64 0, .int .i64 0, .int .i64 0, .int .i64 0, .int .i64 0], .int .i64 E]) ∧ St Zf [] w w'
def RelRead (bs : List Nat) (w : World) (e : Ending) (w' : World) : Prop := RelReadB (getRelV bs) (getRelE bs) w e w'

end Go.Proofs.Ytmiiogailnjfpaa
