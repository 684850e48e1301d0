/- A property's record: its fields. -/
import Derived.Test.YtmiiogailnjfpaaRcNode
import Derived.Deep.Cut
namespace Go.Proofs.Ytmiiogailnjfpaa
open Go.RowKit
set_option linter.unusedVariables false

structure PropC where
  ky : Int
  kd : Int
  nu : Int
  bl : Int
  pv : Int
  nx : Int
def propQ1 (q : Cs × Bool) (x : PropC) : Cs × Bool := fld q 2 0 200 x.ky
def propQ2 (q : Cs × Bool) (x : PropC) : Cs × Bool := fld (propQ1 q x) 1 0 9 x.kd
/-- the kind, behind its field -/
def propK (q : Cs × Bool) (x : PropC) : Int := fval (propQ1 q x) 1 0 x.kd
def propQ3 (q : Cs × Bool) (x : PropC) : Cs × Bool := ((propQ2 q x).1, (propQ2 q x).2 || !decide (1 ≤ propK q x))
def blobQ1 (q : Cs × Bool) : Cs × Bool := fld q 4 0 1 0
def blobV (q : Cs × Bool) (bl : Int) : Int := fval (blobQ1 q) 4 (-1) bl
def blobQ (q : Cs × Bool) (nu bl : Int) : Cs × Bool := ((fld (blobQ1 q) 4 (-1) 65536 bl).1, (fld (blobQ1 q) 4 (-1) 65536 bl).2 || !(decide (blobV q bl ≠ -1) && decide (nu = 0)))
def bitsQ (q : Cs × Bool) (nu bl : Int) : Cs × Bool := (q.1.aft 8 (uIn nu), q.2 || !decide (bl = -1))
def bitsV (q : Cs × Bool) (nu : Int) : Int := wrap64 (q.1.num 8 (uIn nu) : Nat)
def propQ4 (q : Cs × Bool) (x : PropC) : Cs × Bool := if 4 ≤ propK q x then blobQ (propQ3 q x) x.nu x.bl else bitsQ (propQ3 q x) x.nu x.bl
def propN (q : Cs × Bool) (x : PropC) : Int := if 4 ≤ propK q x then x.nu else bitsV (propQ3 q x) x.nu
def propB (q : Cs × Bool) (x : PropC) : Int := if 4 ≤ propK q x then blobV (propQ3 q x) x.bl else x.bl
def propQ5 (q : Cs × Bool) (x : PropC) : Cs × Bool := fld (propQ4 q x) 4 (-1) 65536 x.pv
def propQ (q : Cs × Bool) (x : PropC) : Cs × Bool := fld (propQ5 q x) 4 (-1) 65536 x.nx
def propV (q : Cs × Bool) (x : PropC) : PropC := ⟨fval q 2 0 x.ky, propK q x, propN q x, propB q x, fval (propQ4 q x) 4 (-1) x.pv, fval (propQ5 q x) 4 (-1) x.nx⟩

theorem propQ3_len (q : Cs × Bool) (x : PropC) : (propQ3 q x).1.len ≤ q.1.len + 16 := by
  have h1 := fld_len q 2 0 200 x.ky
  have h2 := fld_len (propQ1 q x) 1 0 9 x.kd
  unfold propQ3 propQ2
  unfold propQ1 at h2 ⊢
  simp only
  omega
theorem blobQ1_len (q : Cs × Bool) : (blobQ1 q).1.len ≤ q.1.len + 8 := fld_len q 4 0 1 0
theorem blobQ_len (q : Cs × Bool) (nu bl : Int) : (blobQ q nu bl).1.len ≤ q.1.len + 16 := by
  have h1 := blobQ1_len q
  have h2 := fld_len (blobQ1 q) 4 (-1) 65536 bl
  unfold blobQ
  simp only
  omega
theorem propQ4_len (q : Cs × Bool) (x : PropC) : (propQ4 q x).1.len ≤ q.1.len + 32 := by
  have h1 := propQ3_len q x
  unfold propQ4
  split
  · have := blobQ_len (propQ3 q x) x.nu x.bl; omega
  · have := aft_len (propQ3 q x).1 8 (uIn x.nu); unfold bitsQ; simp only; omega
theorem propQ5_len (q : Cs × Bool) (x : PropC) : (propQ5 q x).1.len ≤ q.1.len + 40 := by
  have h1 := propQ4_len q x
  have h2 := fld_len (propQ4 q x) 4 (-1) 65536 x.pv
  unfold propQ5
  omega
theorem propQ_len (q : Cs × Bool) (x : PropC) : (propQ q x).1.len ≤ q.1.len + 80 := by
  have h1 := propQ5_len q x
  have h2 := fld_len (propQ5 q x) 4 (-1) 65536 x.nx
  unfold propQ
  omega
theorem propQ3_isw (q : Cs × Bool) (x : PropC) : (propQ3 q x).1.isw = q.1.isw := by unfold propQ3 propQ2 propQ1; simp only [fld_isw]
theorem propQ4_isw (q : Cs × Bool) (x : PropC) : (propQ4 q x).1.isw = q.1.isw := by
  unfold propQ4
  split
  · unfold blobQ blobQ1; simp only [fld_isw, propQ3_isw]
  · unfold bitsQ; simp only [aft_isw, propQ3_isw]
theorem propQ_isw (q : Cs × Bool) (x : PropC) : (propQ q x).1.isw = q.1.isw := by unfold propQ propQ5; rw [fld_isw, fld_isw, propQ4_isw]

theorem cells6 {S : Fp} {l : List Ass} {w0 w : World} {g : Nat} {t : TypeId} {a b d e f i : Value} (h : St S (BlkA g t #[a, b, d, e, f, i] :: l) w0 w) : w.cell? ⟨g, 0, none⟩ = some a ∧ w.cell? ⟨g, 1, none⟩ = some b ∧ w.cell? ⟨g, 2, none⟩ = some d ∧ w.cell? ⟨g, 3, none⟩ = some e ∧ w.cell? ⟨g, 4, none⟩ = some f ∧ w.cell? ⟨g, 5, none⟩ = some i := by
  have hb := h.blk
  exact ⟨by rw [hb.cell 0]; rfl, by rw [hb.cell 1]; rfl, by rw [hb.cell 2]; rfl, by rw [hb.cell 3]; rfl, by rw [hb.cell 4]; rfl, by rw [hb.cell 5]; rfl⟩

section
variable {l : List Ass} {w0 w w' : World} {c : Nat} {q : Cs × Bool}
end
end Go.Proofs.Ytmiiogailnjfpaa
