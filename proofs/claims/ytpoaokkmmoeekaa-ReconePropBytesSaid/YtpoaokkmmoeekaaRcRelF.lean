/- A relationship's record: its fields. Written by mkrcf.py. -/
import Derived.Test.YtpoaokkmmoeekaaRcNode
import Derived.Deep.Cut
namespace Go.Proofs.Ytpoaokkmmoeekaa
open Go.RowKit
set_option linter.unusedVariables false

structure RelC where
  lv : Bool
  fr : Int
  to : Int
  fp : Int
  tp : Int
  fn : Int
  tn : Int
  ty : Int
  pr : Int
def relQ0 (q : Cs × Bool) (x : RelC) : Cs × Bool := q
def relQ1 (q : Cs × Bool) (x : RelC) : Cs × Bool := fld (relQ0 q x) 4 0 1024 x.fr
def relQ2 (q : Cs × Bool) (x : RelC) : Cs × Bool := fld (relQ1 q x) 4 0 1024 x.to
def relQ3 (q : Cs × Bool) (x : RelC) : Cs × Bool := fld (relQ2 q x) 2 0 200 x.ty
def relQ4 (q : Cs × Bool) (x : RelC) : Cs × Bool := fld (relQ3 q x) 4 (-1) 2048 x.fp
def relQ5 (q : Cs × Bool) (x : RelC) : Cs × Bool := fld (relQ4 q x) 4 (-1) 2048 x.fn
def relQ6 (q : Cs × Bool) (x : RelC) : Cs × Bool := fld (relQ5 q x) 4 (-1) 2048 x.tp
def relQ7 (q : Cs × Bool) (x : RelC) : Cs × Bool := fld (relQ6 q x) 4 (-1) 2048 x.tn
def relQ8 (q : Cs × Bool) (x : RelC) : Cs × Bool := fld (relQ7 q x) 4 (-1) 65536 x.pr
def relQ (q : Cs × Bool) (x : RelC) : Cs × Bool := relQ8 q x
def relV (q : Cs × Bool) (x : RelC) : RelC := ⟨x.lv, fval (relQ0 q x) 4 0 x.fr, fval (relQ1 q x) 4 0 x.to, fval (relQ3 q x) 4 (-1) x.fp, fval (relQ5 q x) 4 (-1) x.tp, fval (relQ4 q x) 4 (-1) x.fn, fval (relQ6 q x) 4 (-1) x.tn, fval (relQ2 q x) 2 0 x.ty, fval (relQ7 q x) 4 (-1) x.pr⟩
theorem relQ0_len (q : Cs × Bool) (x : RelC) : (relQ0 q x).1.len ≤ q.1.len + 0 := by
  exact Nat.le_refl _
theorem relQ0_isw (q : Cs × Bool) (x : RelC) : (relQ0 q x).1.isw = q.1.isw := by
  rfl
theorem relQ1_len (q : Cs × Bool) (x : RelC) : (relQ1 q x).1.len ≤ q.1.len + 8 := by
  have h1 := relQ0_len q x
  have h2 := fld_len (relQ0 q x) 4 0 1024 x.fr
  unfold relQ1
  omega
theorem relQ1_isw (q : Cs × Bool) (x : RelC) : (relQ1 q x).1.isw = q.1.isw := by
  unfold relQ1
  rw [fld_isw, relQ0_isw]
theorem relQ2_len (q : Cs × Bool) (x : RelC) : (relQ2 q x).1.len ≤ q.1.len + 16 := by
  have h1 := relQ1_len q x
  have h2 := fld_len (relQ1 q x) 4 0 1024 x.to
  unfold relQ2
  omega
theorem relQ2_isw (q : Cs × Bool) (x : RelC) : (relQ2 q x).1.isw = q.1.isw := by
  unfold relQ2
  rw [fld_isw, relQ1_isw]
theorem relQ3_len (q : Cs × Bool) (x : RelC) : (relQ3 q x).1.len ≤ q.1.len + 24 := by
  have h1 := relQ2_len q x
  have h2 := fld_len (relQ2 q x) 2 0 200 x.ty
  unfold relQ3
  omega
theorem relQ3_isw (q : Cs × Bool) (x : RelC) : (relQ3 q x).1.isw = q.1.isw := by
  unfold relQ3
  rw [fld_isw, relQ2_isw]
theorem relQ4_len (q : Cs × Bool) (x : RelC) : (relQ4 q x).1.len ≤ q.1.len + 32 := by
  have h1 := relQ3_len q x
  have h2 := fld_len (relQ3 q x) 4 (-1) 2048 x.fp
  unfold relQ4
  omega
theorem relQ4_isw (q : Cs × Bool) (x : RelC) : (relQ4 q x).1.isw = q.1.isw := by
  unfold relQ4
  rw [fld_isw, relQ3_isw]
theorem relQ5_len (q : Cs × Bool) (x : RelC) : (relQ5 q x).1.len ≤ q.1.len + 40 := by
  have h1 := relQ4_len q x
  have h2 := fld_len (relQ4 q x) 4 (-1) 2048 x.fn
  unfold relQ5
  omega
theorem relQ5_isw (q : Cs × Bool) (x : RelC) : (relQ5 q x).1.isw = q.1.isw := by
  unfold relQ5
  rw [fld_isw, relQ4_isw]
theorem relQ6_len (q : Cs × Bool) (x : RelC) : (relQ6 q x).1.len ≤ q.1.len + 48 := by
  have h1 := relQ5_len q x
  have h2 := fld_len (relQ5 q x) 4 (-1) 2048 x.tp
  unfold relQ6
  omega
theorem relQ6_isw (q : Cs × Bool) (x : RelC) : (relQ6 q x).1.isw = q.1.isw := by
  unfold relQ6
  rw [fld_isw, relQ5_isw]
theorem relQ7_len (q : Cs × Bool) (x : RelC) : (relQ7 q x).1.len ≤ q.1.len + 56 := by
  have h1 := relQ6_len q x
  have h2 := fld_len (relQ6 q x) 4 (-1) 2048 x.tn
  unfold relQ7
  omega
theorem relQ7_isw (q : Cs × Bool) (x : RelC) : (relQ7 q x).1.isw = q.1.isw := by
  unfold relQ7
  rw [fld_isw, relQ6_isw]
theorem relQ8_len (q : Cs × Bool) (x : RelC) : (relQ8 q x).1.len ≤ q.1.len + 64 := by
  have h1 := relQ7_len q x
  have h2 := fld_len (relQ7 q x) 4 (-1) 65536 x.pr
  unfold relQ8
  omega
theorem relQ8_isw (q : Cs × Bool) (x : RelC) : (relQ8 q x).1.isw = q.1.isw := by
  unfold relQ8
  rw [fld_isw, relQ7_isw]
theorem relQ_len (q : Cs × Bool) (x : RelC) : (relQ q x).1.len ≤ q.1.len + 80 := Nat.le_trans (relQ8_len q x) (by omega)
theorem relQ_isw (q : Cs × Bool) (x : RelC) : (relQ q x).1.isw = q.1.isw := relQ8_isw q x

/-- the seven numbers of a link, one after another in n -/
structure LinkHolds (C : Int → Int → Int → Int → Int → Int → Int → Ass) (n : Nat) : Prop where
  fr : ∀ to fp tp fn tn ty : Int, Holds (fun z => C z to fp tp fn tn ty) n 1
  to : ∀ fr fp tp fn tn ty : Int, Holds (fun z => C fr z fp tp fn tn ty) n 2
  fp : ∀ fr to tp fn tn ty : Int, Holds (fun z => C fr to z tp fn tn ty) n 3
  tp : ∀ fr to fp fn tn ty : Int, Holds (fun z => C fr to fp z fn tn ty) n 4
  fn : ∀ fr to fp tp tn ty : Int, Holds (fun z => C fr to fp tp z tn ty) n 5
  tn : ∀ fr to fp tp fn ty : Int, Holds (fun z => C fr to fp tp fn z ty) n 6
  ty : ∀ fr to fp tp fn tn : Int, Holds (fun z => C fr to fp tp fn tn z) n 7

section
variable {l : List Ass} {w0 w w' : World} {c : Nat} {q : Cs × Bool}
set_option maxHeartbeats 4000000 in
theorem Rel_any [Stable (Sep l)] {n : Nat} {x : RelC} {C : Int → Int → Int → Int → Int → Int → Int → Ass} [hst : ∀ a b c d e f g, Stable (C a b c d e f g)] (hC : LinkHolds C n) (h : St Zf (CoA c q.1 q.2 :: C x.fr x.to x.fp x.tp x.fn x.tn x.ty :: l) w0 w) (hs : q.1.len ≤ 9000) :
    Calls Try.prog 55 #[.pointer (some ⟨c, 0, none⟩), .pointer (some ⟨n, 0, none⟩), .pointer (some ⟨n, 7, none⟩)] w fun e w' => e = .returned (.tuple #[]) ∧ St Zf (CoA c (relQ7 q x).1 (relQ7 q x).2 :: C (relV q x).fr (relV q x).to (relV q x).fp (relV q x).tp (relV q x).fn (relV q x).tn (relV q x).ty :: l) w0 w' := by
  have H1 := Lib.hid (fun (w1 : World) (h1 : St Zf (CoA c (relQ0 q x).1 (relQ0 q x).2 :: C x.fr x.to x.fp x.tp x.fn x.tn x.ty :: l) w0 w1) => Node_any (Q := fun z => C z x.to x.fp x.tp x.fn x.tn x.ty) (hC.fr x.to x.fp x.tp x.fn x.tn x.ty) h1 (fits_of (by have := relQ0_len q x; omega)))
  have H2 := Lib.hid (fun (w1 : World) (h1 : St Zf (CoA c (relQ1 q x).1 (relQ1 q x).2 :: C (relV q x).fr x.to x.fp x.tp x.fn x.tn x.ty :: l) w0 w1) => Node_any (Q := fun z => C (relV q x).fr z x.fp x.tp x.fn x.tn x.ty) (hC.to (relV q x).fr x.fp x.tp x.fn x.tn x.ty) h1 (fits_of (by have := relQ1_len q x; omega)))
  have H3 := Lib.hid (fun (w1 : World) (h1 : St Zf (CoA c (relQ2 q x).1 (relQ2 q x).2 :: C (relV q x).fr (relV q x).to x.fp x.tp x.fn x.tn x.ty :: l) w0 w1) => Token_any (Q := fun z => C (relV q x).fr (relV q x).to x.fp x.tp x.fn x.tn z) (hC.ty (relV q x).fr (relV q x).to x.fp x.tp x.fn x.tn) h1 (fits_of (by have := relQ2_len q x; omega)))
  have H4 := Lib.hid (fun (w1 : World) (h1 : St Zf (CoA c (relQ3 q x).1 (relQ3 q x).2 :: C (relV q x).fr (relV q x).to x.fp x.tp x.fn x.tn (relV q x).ty :: l) w0 w1) => Pointer_any (Q := fun z => C (relV q x).fr (relV q x).to z x.tp x.fn x.tn (relV q x).ty) (hC.fp (relV q x).fr (relV q x).to x.tp x.fn x.tn (relV q x).ty) h1 (fits_of (by have := relQ3_len q x; omega)) 2048)
  have H5 := Lib.hid (fun (w1 : World) (h1 : St Zf (CoA c (relQ4 q x).1 (relQ4 q x).2 :: C (relV q x).fr (relV q x).to (relV q x).fp x.tp x.fn x.tn (relV q x).ty :: l) w0 w1) => Pointer_any (Q := fun z => C (relV q x).fr (relV q x).to (relV q x).fp x.tp z x.tn (relV q x).ty) (hC.fn (relV q x).fr (relV q x).to (relV q x).fp x.tp x.tn (relV q x).ty) h1 (fits_of (by have := relQ4_len q x; omega)) 2048)
  have H6 := Lib.hid (fun (w1 : World) (h1 : St Zf (CoA c (relQ5 q x).1 (relQ5 q x).2 :: C (relV q x).fr (relV q x).to (relV q x).fp x.tp (relV q x).fn x.tn (relV q x).ty :: l) w0 w1) => Pointer_any (Q := fun z => C (relV q x).fr (relV q x).to (relV q x).fp z (relV q x).fn x.tn (relV q x).ty) (hC.tp (relV q x).fr (relV q x).to (relV q x).fp (relV q x).fn x.tn (relV q x).ty) h1 (fits_of (by have := relQ5_len q x; omega)) 2048)
  have H7 := Lib.hid (fun (w1 : World) (h1 : St Zf (CoA c (relQ6 q x).1 (relQ6 q x).2 :: C (relV q x).fr (relV q x).to (relV q x).fp (relV q x).tp (relV q x).fn x.tn (relV q x).ty :: l) w0 w1) => Pointer_any (Q := fun z => C (relV q x).fr (relV q x).to (relV q x).fp (relV q x).tp (relV q x).fn z (relV q x).ty) (hC.tn (relV q x).fr (relV q x).to (relV q x).fp (relV q x).tp (relV q x).fn (relV q x).ty) h1 (fits_of (by have := relQ6_len q x; omega)) 2048)
  have h0 : St Zf (CoA c (relQ0 q x).1 (relQ0 q x).2 :: C x.fr x.to x.fp x.tp x.fn x.tn x.ty :: l) w0 w := h
  clear h hs
  go_enter Try.func55, Try.ntmps55
  go_upto_region 1 with (go_at_call 69; refine (H1.out _ h0).mono ?_; rintro e w1 ⟨rfl, h1⟩)
  go_upto_region 2 with (go_at_call 69; refine (H2.out _ h1).mono ?_; rintro e w2 ⟨rfl, h2⟩)
  go_upto_region 3 with (go_at_call 57; refine (H3.out _ h2).mono ?_; rintro e w3 ⟨rfl, h3⟩)
  go_upto_region 4 with (go_at_call 51; refine (H4.out _ h3).mono ?_; rintro e w4 ⟨rfl, h4⟩)
  go_upto_region 5 with (go_at_call 51; refine (H5.out _ h4).mono ?_; rintro e w5 ⟨rfl, h5⟩)
  go_upto_region 6 with (go_at_call 51; refine (H6.out _ h5).mono ?_; rintro e w6 ⟨rfl, h6⟩)
  go_wp2_with (go_at_call 51; refine (H7.out _ h6).mono ?_; rintro e w7 ⟨rfl, h7⟩)
  go_end0
  exact ⟨rfl, h7⟩

theorem relone_holds (lv : Bool) (pr : Int) (n : Nat) : LinkHolds (fun fr to fp tp fn tn ty => BlkA n 77 #[.bool lv, .int .i64 fr, .int .i64 to, .int .i64 fp, .int .i64 tp, .int .i64 fn, .int .i64 tn, .int .i64 ty, .int .i64 pr]) n where
  fr := fun _ _ _ _ _ _ => Holds.blk (fun z => rfl) (fun y z => rfl)
  to := fun _ _ _ _ _ _ => Holds.blk (fun z => rfl) (fun y z => rfl)
  fp := fun _ _ _ _ _ _ => Holds.blk (fun z => rfl) (fun y z => rfl)
  tp := fun _ _ _ _ _ _ => Holds.blk (fun z => rfl) (fun y z => rfl)
  fn := fun _ _ _ _ _ _ => Holds.blk (fun z => rfl) (fun y z => rfl)
  tn := fun _ _ _ _ _ _ => Holds.blk (fun z => rfl) (fun y z => rfl)
  ty := fun _ _ _ _ _ _ => Holds.blk (fun z => rfl) (fun y z => rfl)
set_option maxHeartbeats 4000000 in
theorem relFields_any [Stable (Sep l)] {n : Nat} {x : RelC} (h : St Zf (CoA c q.1 q.2 :: BlkA n 77 #[.bool x.lv, .int .i64 x.fr, .int .i64 x.to, .int .i64 x.fp, .int .i64 x.tp, .int .i64 x.fn, .int .i64 x.tn, .int .i64 x.ty, .int .i64 x.pr] :: l) w0 w) (hs : q.1.len ≤ 9000) :
    Calls Try.prog 38 #[.pointer (some ⟨n, 0, none⟩), .pointer (some ⟨c, 0, none⟩)] w fun e w' => e = .returned (.tuple #[]) ∧ St Zf (CoA c (relQ q x).1 (relQ q x).2 :: BlkA n 77 #[.bool x.lv, .int .i64 (relV q x).fr, .int .i64 (relV q x).to, .int .i64 (relV q x).fp, .int .i64 (relV q x).tp, .int .i64 (relV q x).fn, .int .i64 (relV q x).tn, .int .i64 (relV q x).ty, .int .i64 (relV q x).pr] :: l) w0 w' := by
  have H1 := Lib.hid (Rel_any (relone_holds x.lv x.pr n) h.drew hs)
  have H2 := Lib.hid (fun (w1 : World) (h1 : St Zf (CoA c (relQ7 q x).1 (relQ7 q x).2 :: BlkA n 77 #[.bool x.lv, .int .i64 (relV q x).fr, .int .i64 (relV q x).to, .int .i64 (relV q x).fp, .int .i64 (relV q x).tp, .int .i64 (relV q x).fn, .int .i64 (relV q x).tn, .int .i64 (relV q x).ty, .int .i64 x.pr] :: l) w0 w1) => Pointer_any (Holds.blk (n := n) (k := 8) (t := 77) (cs := fun z => #[.bool x.lv, .int .i64 (relV q x).fr, .int .i64 (relV q x).to, .int .i64 (relV q x).fp, .int .i64 (relV q x).tp, .int .i64 (relV q x).fn, .int .i64 (relV q x).tn, .int .i64 (relV q x).ty, .int .i64 z]) (fun z => rfl) (fun y z => rfl)) h1 (fits_of (by have := relQ7_len q x; omega)) 65536)
  clear h hs
  go_enter Try.func38, Try.ntmps38
  go_wp2
  go_region_held3 (fun w' => True) (go_keep)
    ((go_at_call 55; refine (H1.out).mono ?_; rintro e w1 ⟨rfl, h1⟩))
  go_wp2_with (go_at_call 51; refine (H2.out _ h1).mono ?_; rintro e w2 ⟨rfl, h2⟩)
  go_end0
  exact ⟨rfl, h2⟩
end
end Go.Proofs.Ytpoaokkmmoeekaa
