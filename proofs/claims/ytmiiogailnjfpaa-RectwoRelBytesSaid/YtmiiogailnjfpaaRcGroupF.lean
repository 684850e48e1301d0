/- A group's record: its fields. Written by mkrdf.py. -/
import Derived.Test.YtmiiogailnjfpaaRcNode
import Derived.Deep.Cut
namespace Go.Proofs.Ytmiiogailnjfpaa
open Go.RowKit
set_option linter.unusedVariables false

structure GroupC where
  lv : Bool
  ty : Int
  ow : Int
  ou : Int
  ni : Int
  lp : Int
  nx : Int
def groupQ0 (q : Cs × Bool) (x : GroupC) : Cs × Bool := q
def groupQ1 (q : Cs × Bool) (x : GroupC) : Cs × Bool := fld (groupQ0 q x) 2 0 200 x.ty
def groupQ2 (q : Cs × Bool) (x : GroupC) : Cs × Bool := fld (groupQ1 q x) 4 0 1024 x.ow
def groupQ3 (q : Cs × Bool) (x : GroupC) : Cs × Bool := fld (groupQ2 q x) 4 (-1) 2048 x.ou
def groupQ4 (q : Cs × Bool) (x : GroupC) : Cs × Bool := fld (groupQ3 q x) 4 (-1) 2048 x.ni
def groupQ5 (q : Cs × Bool) (x : GroupC) : Cs × Bool := fld (groupQ4 q x) 4 (-1) 2048 x.lp
def groupQ6 (q : Cs × Bool) (x : GroupC) : Cs × Bool := fld (groupQ5 q x) 4 (-1) 65536 x.nx
def groupQ (q : Cs × Bool) (x : GroupC) : Cs × Bool := groupQ6 q x
def groupV (q : Cs × Bool) (x : GroupC) : GroupC := ⟨x.lv, fval (groupQ0 q x) 2 0 x.ty, fval (groupQ1 q x) 4 0 x.ow, fval (groupQ2 q x) 4 (-1) x.ou, fval (groupQ3 q x) 4 (-1) x.ni, fval (groupQ4 q x) 4 (-1) x.lp, fval (groupQ5 q x) 4 (-1) x.nx⟩
theorem groupQ0_len (q : Cs × Bool) (x : GroupC) : (groupQ0 q x).1.len ≤ q.1.len + 0 := by
  exact Nat.le_refl _
theorem groupQ0_isw (q : Cs × Bool) (x : GroupC) : (groupQ0 q x).1.isw = q.1.isw := by
  rfl
theorem groupQ1_len (q : Cs × Bool) (x : GroupC) : (groupQ1 q x).1.len ≤ q.1.len + 8 := by
  have h1 := groupQ0_len q x
  have h2 := fld_len (groupQ0 q x) 2 0 200 x.ty
  unfold groupQ1
  omega
theorem groupQ1_isw (q : Cs × Bool) (x : GroupC) : (groupQ1 q x).1.isw = q.1.isw := by
  unfold groupQ1
  rw [fld_isw, groupQ0_isw]
theorem groupQ2_len (q : Cs × Bool) (x : GroupC) : (groupQ2 q x).1.len ≤ q.1.len + 16 := by
  have h1 := groupQ1_len q x
  have h2 := fld_len (groupQ1 q x) 4 0 1024 x.ow
  unfold groupQ2
  omega
theorem groupQ2_isw (q : Cs × Bool) (x : GroupC) : (groupQ2 q x).1.isw = q.1.isw := by
  unfold groupQ2
  rw [fld_isw, groupQ1_isw]
theorem groupQ3_len (q : Cs × Bool) (x : GroupC) : (groupQ3 q x).1.len ≤ q.1.len + 24 := by
  have h1 := groupQ2_len q x
  have h2 := fld_len (groupQ2 q x) 4 (-1) 2048 x.ou
  unfold groupQ3
  omega
theorem groupQ3_isw (q : Cs × Bool) (x : GroupC) : (groupQ3 q x).1.isw = q.1.isw := by
  unfold groupQ3
  rw [fld_isw, groupQ2_isw]
theorem groupQ4_len (q : Cs × Bool) (x : GroupC) : (groupQ4 q x).1.len ≤ q.1.len + 32 := by
  have h1 := groupQ3_len q x
  have h2 := fld_len (groupQ3 q x) 4 (-1) 2048 x.ni
  unfold groupQ4
  omega
theorem groupQ4_isw (q : Cs × Bool) (x : GroupC) : (groupQ4 q x).1.isw = q.1.isw := by
  unfold groupQ4
  rw [fld_isw, groupQ3_isw]
theorem groupQ5_len (q : Cs × Bool) (x : GroupC) : (groupQ5 q x).1.len ≤ q.1.len + 40 := by
  have h1 := groupQ4_len q x
  have h2 := fld_len (groupQ4 q x) 4 (-1) 2048 x.lp
  unfold groupQ5
  omega
theorem groupQ5_isw (q : Cs × Bool) (x : GroupC) : (groupQ5 q x).1.isw = q.1.isw := by
  unfold groupQ5
  rw [fld_isw, groupQ4_isw]
theorem groupQ6_len (q : Cs × Bool) (x : GroupC) : (groupQ6 q x).1.len ≤ q.1.len + 48 := by
  have h1 := groupQ5_len q x
  have h2 := fld_len (groupQ5 q x) 4 (-1) 65536 x.nx
  unfold groupQ6
  omega
theorem groupQ6_isw (q : Cs × Bool) (x : GroupC) : (groupQ6 q x).1.isw = q.1.isw := by
  unfold groupQ6
  rw [fld_isw, groupQ5_isw]
theorem groupQ_len (q : Cs × Bool) (x : GroupC) : (groupQ q x).1.len ≤ q.1.len + 80 := Nat.le_trans (groupQ6_len q x) (by omega)
theorem groupQ_isw (q : Cs × Bool) (x : GroupC) : (groupQ q x).1.isw = q.1.isw := groupQ6_isw q x

section
variable {l : List Ass} {w0 w w' : World} {c : Nat} {q : Cs × Bool}
set_option maxHeartbeats 4000000 in
theorem groupFields_any [Stable (Sep l)] {n : Nat} {x : GroupC} (h : St Zf (CoA c q.1 q.2 :: BlkA n 91 #[.bool x.lv, .int .i64 x.ty, .int .i64 x.ow, .int .i64 x.ou, .int .i64 x.ni, .int .i64 x.lp, .int .i64 x.nx] :: l) w0 w) (hs : q.1.len ≤ 9000) :
    Calls Try.prog 49 #[.pointer (some ⟨n, 0, none⟩), .pointer (some ⟨c, 0, none⟩)] w fun e w' => e = .returned (.tuple #[]) ∧ St Zf (CoA c (groupQ q x).1 (groupQ q x).2 :: BlkA n 91 #[.bool x.lv, .int .i64 (groupV q x).ty, .int .i64 (groupV q x).ow, .int .i64 (groupV q x).ou, .int .i64 (groupV q x).ni, .int .i64 (groupV q x).lp, .int .i64 (groupV q x).nx] :: l) w0 w' := by
  have H1 := Lib.hid (fun (w1 : World) (h1 : St Zf (CoA c (groupQ0 q x).1 (groupQ0 q x).2 :: BlkA n 91 #[.bool x.lv, .int .i64 x.ty, .int .i64 x.ow, .int .i64 x.ou, .int .i64 x.ni, .int .i64 x.lp, .int .i64 x.nx] :: l) w0 w1) => Token_any (Holds.blk (n := n) (k := 1) (t := 91) (cs := fun z => #[.bool x.lv, .int .i64 z, .int .i64 x.ow, .int .i64 x.ou, .int .i64 x.ni, .int .i64 x.lp, .int .i64 x.nx]) (fun z => rfl) (fun y z => rfl)) h1 (fits_of (by have := groupQ0_len q x; omega)))
  have H2 := Lib.hid (fun (w1 : World) (h1 : St Zf (CoA c (groupQ1 q x).1 (groupQ1 q x).2 :: BlkA n 91 #[.bool x.lv, .int .i64 (groupV q x).ty, .int .i64 x.ow, .int .i64 x.ou, .int .i64 x.ni, .int .i64 x.lp, .int .i64 x.nx] :: l) w0 w1) => Node_any (Holds.blk (n := n) (k := 2) (t := 91) (cs := fun z => #[.bool x.lv, .int .i64 (groupV q x).ty, .int .i64 z, .int .i64 x.ou, .int .i64 x.ni, .int .i64 x.lp, .int .i64 x.nx]) (fun z => rfl) (fun y z => rfl)) h1 (fits_of (by have := groupQ1_len q x; omega)))
  have H3 := Lib.hid (fun (w1 : World) (h1 : St Zf (CoA c (groupQ2 q x).1 (groupQ2 q x).2 :: BlkA n 91 #[.bool x.lv, .int .i64 (groupV q x).ty, .int .i64 (groupV q x).ow, .int .i64 x.ou, .int .i64 x.ni, .int .i64 x.lp, .int .i64 x.nx] :: l) w0 w1) => Pointer_any (Holds.blk (n := n) (k := 3) (t := 91) (cs := fun z => #[.bool x.lv, .int .i64 (groupV q x).ty, .int .i64 (groupV q x).ow, .int .i64 z, .int .i64 x.ni, .int .i64 x.lp, .int .i64 x.nx]) (fun z => rfl) (fun y z => rfl)) h1 (fits_of (by have := groupQ2_len q x; omega)) 2048)
  have H4 := Lib.hid (fun (w1 : World) (h1 : St Zf (CoA c (groupQ3 q x).1 (groupQ3 q x).2 :: BlkA n 91 #[.bool x.lv, .int .i64 (groupV q x).ty, .int .i64 (groupV q x).ow, .int .i64 (groupV q x).ou, .int .i64 x.ni, .int .i64 x.lp, .int .i64 x.nx] :: l) w0 w1) => Pointer_any (Holds.blk (n := n) (k := 4) (t := 91) (cs := fun z => #[.bool x.lv, .int .i64 (groupV q x).ty, .int .i64 (groupV q x).ow, .int .i64 (groupV q x).ou, .int .i64 z, .int .i64 x.lp, .int .i64 x.nx]) (fun z => rfl) (fun y z => rfl)) h1 (fits_of (by have := groupQ3_len q x; omega)) 2048)
  have H5 := Lib.hid (fun (w1 : World) (h1 : St Zf (CoA c (groupQ4 q x).1 (groupQ4 q x).2 :: BlkA n 91 #[.bool x.lv, .int .i64 (groupV q x).ty, .int .i64 (groupV q x).ow, .int .i64 (groupV q x).ou, .int .i64 (groupV q x).ni, .int .i64 x.lp, .int .i64 x.nx] :: l) w0 w1) => Pointer_any (Holds.blk (n := n) (k := 5) (t := 91) (cs := fun z => #[.bool x.lv, .int .i64 (groupV q x).ty, .int .i64 (groupV q x).ow, .int .i64 (groupV q x).ou, .int .i64 (groupV q x).ni, .int .i64 z, .int .i64 x.nx]) (fun z => rfl) (fun y z => rfl)) h1 (fits_of (by have := groupQ4_len q x; omega)) 2048)
  have H6 := Lib.hid (fun (w1 : World) (h1 : St Zf (CoA c (groupQ5 q x).1 (groupQ5 q x).2 :: BlkA n 91 #[.bool x.lv, .int .i64 (groupV q x).ty, .int .i64 (groupV q x).ow, .int .i64 (groupV q x).ou, .int .i64 (groupV q x).ni, .int .i64 (groupV q x).lp, .int .i64 x.nx] :: l) w0 w1) => Pointer_any (Holds.blk (n := n) (k := 6) (t := 91) (cs := fun z => #[.bool x.lv, .int .i64 (groupV q x).ty, .int .i64 (groupV q x).ow, .int .i64 (groupV q x).ou, .int .i64 (groupV q x).ni, .int .i64 (groupV q x).lp, .int .i64 z]) (fun z => rfl) (fun y z => rfl)) h1 (fits_of (by have := groupQ5_len q x; omega)) 65536)
  have h0 : St Zf (CoA c (groupQ0 q x).1 (groupQ0 q x).2 :: BlkA n 91 #[.bool x.lv, .int .i64 x.ty, .int .i64 x.ow, .int .i64 x.ou, .int .i64 x.ni, .int .i64 x.lp, .int .i64 x.nx] :: l) w0 w := h
  clear h hs
  go_enter Try.func49, Try.ntmps49
  go_upto_region 1 with (go_at_call 66; refine (H1.out _ h0).mono ?_; rintro e w1 ⟨rfl, h1⟩)
  go_upto_region 2 with (go_at_call 67; refine (H2.out _ h1).mono ?_; rintro e w2 ⟨rfl, h2⟩)
  go_upto_region 3 with (go_at_call 56; refine (H3.out _ h2).mono ?_; rintro e w3 ⟨rfl, h3⟩)
  go_upto_region 4 with (go_at_call 56; refine (H4.out _ h3).mono ?_; rintro e w4 ⟨rfl, h4⟩)
  go_upto_region 5 with (go_at_call 56; refine (H5.out _ h4).mono ?_; rintro e w5 ⟨rfl, h5⟩)
  go_wp2_with (go_at_call 56; refine (H6.out _ h5).mono ?_; rintro e w6 ⟨rfl, h6⟩)
  go_end0
  exact ⟨rfl, h6⟩
end
end Go.Proofs.Ytmiiogailnjfpaa
