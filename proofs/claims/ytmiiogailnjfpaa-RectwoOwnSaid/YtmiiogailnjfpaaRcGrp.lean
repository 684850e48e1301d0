/- A group's record: its fields. Written by mkrdf.py. -/
import Derived.Test.YtmiiogailnjfpaaRcNode
import Derived.Deep.Cut
import Derived.Test.YtmiiogailnjfpaaRcNode2
namespace Go.Proofs.Ytmiiogailnjfpaa
open Go.RowKit
set_option linter.unusedVariables false

structure GroupC where
  lv : Bool
  ty : Int
  ow : Int
  ou : Int
  ni : Int
  lp : Int
  nx : Int
def groupQ0 (q : Cs × Bool) (x : GroupC) : Cs × Bool := q
def groupQ1 (q : Cs × Bool) (x : GroupC) : Cs × Bool := fld (groupQ0 q x) 2 0 200 x.ty
def groupQ2 (q : Cs × Bool) (x : GroupC) : Cs × Bool := fld (groupQ1 q x) 4 0 1024 x.ow
def groupQ3 (q : Cs × Bool) (x : GroupC) : Cs × Bool := fld (groupQ2 q x) 4 (-1) 2048 x.ou
def groupQ4 (q : Cs × Bool) (x : GroupC) : Cs × Bool := fld (groupQ3 q x) 4 (-1) 2048 x.ni
def groupQ5 (q : Cs × Bool) (x : GroupC) : Cs × Bool := fld (groupQ4 q x) 4 (-1) 2048 x.lp
def groupQ6 (q : Cs × Bool) (x : GroupC) : Cs × Bool := fld (groupQ5 q x) 4 (-1) 65536 x.nx
def groupQ (q : Cs × Bool) (x : GroupC) : Cs × Bool := groupQ6 q x
def groupV (q : Cs × Bool) (x : GroupC) : GroupC := ⟨x.lv, fval (groupQ0 q x) 2 0 x.ty, fval (groupQ1 q x) 4 0 x.ow, fval (groupQ2 q x) 4 (-1) x.ou, fval (groupQ3 q x) 4 (-1) x.ni, fval (groupQ4 q x) 4 (-1) x.lp, fval (groupQ5 q x) 4 (-1) x.nx⟩
theorem groupQ0_len (q : Cs × Bool) (x : GroupC) : (groupQ0 q x).1.len ≤ q.1.len + 0 := by
  exact Nat.le_refl _
theorem groupQ0_isw (q : Cs × Bool) (x : GroupC) : (groupQ0 q x).1.isw = q.1.isw := by
  rfl
theorem groupQ1_len (q : Cs × Bool) (x : GroupC) : (groupQ1 q x).1.len ≤ q.1.len + 8 := by
  have h1 := groupQ0_len q x
  have h2 := fld_len (groupQ0 q x) 2 0 200 x.ty
  unfold groupQ1
  omega
theorem groupQ1_isw (q : Cs × Bool) (x : GroupC) : (groupQ1 q x).1.isw = q.1.isw := by
  unfold groupQ1
  rw [fld_isw, groupQ0_isw]
theorem groupQ2_len (q : Cs × Bool) (x : GroupC) : (groupQ2 q x).1.len ≤ q.1.len + 16 := by
  have h1 := groupQ1_len q x
  have h2 := fld_len (groupQ1 q x) 4 0 1024 x.ow
  unfold groupQ2
  omega
theorem groupQ2_isw (q : Cs × Bool) (x : GroupC) : (groupQ2 q x).1.isw = q.1.isw := by
  unfold groupQ2
  rw [fld_isw, groupQ1_isw]
theorem groupQ3_len (q : Cs × Bool) (x : GroupC) : (groupQ3 q x).1.len ≤ q.1.len + 24 := by
  have h1 := groupQ2_len q x
  have h2 := fld_len (groupQ2 q x) 4 (-1) 2048 x.ou
  unfold groupQ3
  omega
theorem groupQ3_isw (q : Cs × Bool) (x : GroupC) : (groupQ3 q x).1.isw = q.1.isw := by
  unfold groupQ3
  rw [fld_isw, groupQ2_isw]
theorem groupQ4_len (q : Cs × Bool) (x : GroupC) : (groupQ4 q x).1.len ≤ q.1.len + 32 := by
  have h1 := groupQ3_len q x
  have h2 := fld_len (groupQ3 q x) 4 (-1) 2048 x.ni
  unfold groupQ4
  omega
theorem groupQ4_isw (q : Cs × Bool) (x : GroupC) : (groupQ4 q x).1.isw = q.1.isw := by
  unfold groupQ4
  rw [fld_isw, groupQ3_isw]
theorem groupQ5_len (q : Cs × Bool) (x : GroupC) : (groupQ5 q x).1.len ≤ q.1.len + 40 := by
  have h1 := groupQ4_len q x
  have h2 := fld_len (groupQ4 q x) 4 (-1) 2048 x.lp
  unfold groupQ5
  omega
theorem groupQ5_isw (q : Cs × Bool) (x : GroupC) : (groupQ5 q x).1.isw = q.1.isw := by
  unfold groupQ5
  rw [fld_isw, groupQ4_isw]
theorem groupQ6_len (q : Cs × Bool) (x : GroupC) : (groupQ6 q x).1.len ≤ q.1.len + 48 := by
  have h1 := groupQ5_len q x
  have h2 := fld_len (groupQ5 q x) 4 (-1) 65536 x.nx
  unfold groupQ6
  omega
theorem groupQ6_isw (q : Cs × Bool) (x : GroupC) : (groupQ6 q x).1.isw = q.1.isw := by
  unfold groupQ6
  rw [fld_isw, groupQ5_isw]
theorem groupQ_len (q : Cs × Bool) (x : GroupC) : (groupQ q x).1.len ≤ q.1.len + 80 := Nat.le_trans (groupQ6_len q x) (by omega)
theorem groupQ_isw (q : Cs × Bool) (x : GroupC) : (groupQ q x).1.isw = q.1.isw := groupQ6_isw q x

section
variable {l : List Ass} {w0 w w' : World} {c : Nat} {q : Cs × Bool}
set_option maxHeartbeats 4000000 in
theorem groupFields_any [Stable (Sep l)] {n : Nat} {x : GroupC} (h : St Zf (CoA c q.1 q.2 :: BlkA n 91 #[.bool x.lv, .int .i64 x.ty, .int .i64 x.ow, .int .i64 x.ou, .int .i64 x.ni, .int .i64 x.lp, .int .i64 x.nx] :: l) w0 w) (hs : q.1.len ≤ 9000) :
    Calls Try.prog 49 #[.pointer (some ⟨n, 0, none⟩), .pointer (some ⟨c, 0, none⟩)] w fun e w' => e = .returned (.tuple #[]) ∧ St Zf (CoA c (groupQ q x).1 (groupQ q x).2 :: BlkA n 91 #[.bool x.lv, .int .i64 (groupV q x).ty, .int .i64 (groupV q x).ow, .int .i64 (groupV q x).ou, .int .i64 (groupV q x).ni, .int .i64 (groupV q x).lp, .int .i64 (groupV q x).nx] :: l) w0 w' := by
  have H1 := Lib.hid (fun (w1 : World) (h1 : St Zf (CoA c (groupQ0 q x).1 (groupQ0 q x).2 :: BlkA n 91 #[.bool x.lv, .int .i64 x.ty, .int .i64 x.ow, .int .i64 x.ou, .int .i64 x.ni, .int .i64 x.lp, .int .i64 x.nx] :: l) w0 w1) => Token_any (Holds.blk (n := n) (k := 1) (t := 91) (cs := fun z => #[.bool x.lv, .int .i64 z, .int .i64 x.ow, .int .i64 x.ou, .int .i64 x.ni, .int .i64 x.lp, .int .i64 x.nx]) (fun z => rfl) (fun y z => rfl)) h1 (fits_of (by have := groupQ0_len q x; omega)))
  have H2 := Lib.hid (fun (w1 : World) (h1 : St Zf (CoA c (groupQ1 q x).1 (groupQ1 q x).2 :: BlkA n 91 #[.bool x.lv, .int .i64 (groupV q x).ty, .int .i64 x.ow, .int .i64 x.ou, .int .i64 x.ni, .int .i64 x.lp, .int .i64 x.nx] :: l) w0 w1) => Node_any (Holds.blk (n := n) (k := 2) (t := 91) (cs := fun z => #[.bool x.lv, .int .i64 (groupV q x).ty, .int .i64 z, .int .i64 x.ou, .int .i64 x.ni, .int .i64 x.lp, .int .i64 x.nx]) (fun z => rfl) (fun y z => rfl)) h1 (fits_of (by have := groupQ1_len q x; omega)))
  have H3 := Lib.hid (fun (w1 : World) (h1 : St Zf (CoA c (groupQ2 q x).1 (groupQ2 q x).2 :: BlkA n 91 #[.bool x.lv, .int .i64 (groupV q x).ty, .int .i64 (groupV q x).ow, .int .i64 x.ou, .int .i64 x.ni, .int .i64 x.lp, .int .i64 x.nx] :: l) w0 w1) => Pointer_any (Holds.blk (n := n) (k := 3) (t := 91) (cs := fun z => #[.bool x.lv, .int .i64 (groupV q x).ty, .int .i64 (groupV q x).ow, .int .i64 z, .int .i64 x.ni, .int .i64 x.lp, .int .i64 x.nx]) (fun z => rfl) (fun y z => rfl)) h1 (fits_of (by have := groupQ2_len q x; omega)) 2048)
  have H4 := Lib.hid (fun (w1 : World) (h1 : St Zf (CoA c (groupQ3 q x).1 (groupQ3 q x).2 :: BlkA n 91 #[.bool x.lv, .int .i64 (groupV q x).ty, .int .i64 (groupV q x).ow, .int .i64 (groupV q x).ou, .int .i64 x.ni, .int .i64 x.lp, .int .i64 x.nx] :: l) w0 w1) => Pointer_any (Holds.blk (n := n) (k := 4) (t := 91) (cs := fun z => #[.bool x.lv, .int .i64 (groupV q x).ty, .int .i64 (groupV q x).ow, .int .i64 (groupV q x).ou, .int .i64 z, .int .i64 x.lp, .int .i64 x.nx]) (fun z => rfl) (fun y z => rfl)) h1 (fits_of (by have := groupQ3_len q x; omega)) 2048)
  have H5 := Lib.hid (fun (w1 : World) (h1 : St Zf (CoA c (groupQ4 q x).1 (groupQ4 q x).2 :: BlkA n 91 #[.bool x.lv, .int .i64 (groupV q x).ty, .int .i64 (groupV q x).ow, .int .i64 (groupV q x).ou, .int .i64 (groupV q x).ni, .int .i64 x.lp, .int .i64 x.nx] :: l) w0 w1) => Pointer_any (Holds.blk (n := n) (k := 5) (t := 91) (cs := fun z => #[.bool x.lv, .int .i64 (groupV q x).ty, .int .i64 (groupV q x).ow, .int .i64 (groupV q x).ou, .int .i64 (groupV q x).ni, .int .i64 z, .int .i64 x.nx]) (fun z => rfl) (fun y z => rfl)) h1 (fits_of (by have := groupQ4_len q x; omega)) 2048)
  have H6 := Lib.hid (fun (w1 : World) (h1 : St Zf (CoA c (groupQ5 q x).1 (groupQ5 q x).2 :: BlkA n 91 #[.bool x.lv, .int .i64 (groupV q x).ty, .int .i64 (groupV q x).ow, .int .i64 (groupV q x).ou, .int .i64 (groupV q x).ni, .int .i64 (groupV q x).lp, .int .i64 x.nx] :: l) w0 w1) => Pointer_any (Holds.blk (n := n) (k := 6) (t := 91) (cs := fun z => #[.bool x.lv, .int .i64 (groupV q x).ty, .int .i64 (groupV q x).ow, .int .i64 (groupV q x).ou, .int .i64 (groupV q x).ni, .int .i64 (groupV q x).lp, .int .i64 z]) (fun z => rfl) (fun y z => rfl)) h1 (fits_of (by have := groupQ5_len q x; omega)) 65536)
  have h0 : St Zf (CoA c (groupQ0 q x).1 (groupQ0 q x).2 :: BlkA n 91 #[.bool x.lv, .int .i64 x.ty, .int .i64 x.ow, .int .i64 x.ou, .int .i64 x.ni, .int .i64 x.lp, .int .i64 x.nx] :: l) w0 w := h
  clear h hs
  go_enter Try.func49, Try.ntmps49
  go_upto_region 1 with (go_at_call 66; refine (H1.out _ h0).mono ?_; rintro e w1 ⟨rfl, h1⟩)
  go_upto_region 2 with (go_at_call 67; refine (H2.out _ h1).mono ?_; rintro e w2 ⟨rfl, h2⟩)
  go_upto_region 3 with (go_at_call 56; refine (H3.out _ h2).mono ?_; rintro e w3 ⟨rfl, h3⟩)
  go_upto_region 4 with (go_at_call 56; refine (H4.out _ h3).mono ?_; rintro e w4 ⟨rfl, h4⟩)
  go_upto_region 5 with (go_at_call 56; refine (H5.out _ h4).mono ?_; rintro e w5 ⟨rfl, h5⟩)
  go_wp2_with (go_at_call 56; refine (H6.out _ h5).mono ?_; rintro e w6 ⟨rfl, h6⟩)
  go_end0
  exact ⟨rfl, h6⟩
end
end Go.Proofs.Ytmiiogailnjfpaa

/- A group's record: code, Write, Read, Put, Get of the program. Written by mkrc.py. -/
namespace Go.Proofs.Ytmiiogailnjfpaa
open Go.RowKit
set_option linter.unusedVariables false

theorem cellsgroup {S : Fp} {l : List Ass} {w0 w : World} {g : Nat} {t : TypeId} {a0 a1 a2 a3 a4 a5 a6 : Value} (h : St S (BlkA g t #[a0, a1, a2, a3, a4, a5, a6] :: l) w0 w) : w.cell? ⟨g, 0, none⟩ = some a0 ∧ w.cell? ⟨g, 1, none⟩ = some a1 ∧ w.cell? ⟨g, 2, none⟩ = some a2 ∧ w.cell? ⟨g, 3, none⟩ = some a3 ∧ w.cell? ⟨g, 4, none⟩ = some a4 ∧ w.cell? ⟨g, 5, none⟩ = some a5 ∧ w.cell? ⟨g, 6, none⟩ = some a6 := by
  have hb := h.blk
  exact ⟨by rw [hb.cell 0]; rfl, by rw [hb.cell 1]; rfl, by rw [hb.cell 2]; rfl, by rw [hb.cell 3]; rfl, by rw [hb.cell 4]; rfl, by rw [hb.cell 5]; rfl, by rw [hb.cell 6]; rfl⟩
theorem frozgroup {S : Fp} {l : List Ass} {w0 w : World} {g : Nat} {t : TypeId} {cs : Array Value} (h : St S (BlkA g t cs :: l) w0 w) : w.frozen? ⟨g, 0, none⟩ = false ∧ w.frozen? ⟨g, 1, none⟩ = false ∧ w.frozen? ⟨g, 2, none⟩ = false ∧ w.frozen? ⟨g, 3, none⟩ = false ∧ w.frozen? ⟨g, 4, none⟩ = false ∧ w.frozen? ⟨g, 5, none⟩ = false ∧ w.frozen? ⟨g, 6, none⟩ = false := by
  have hb := h.blk
  exact ⟨hb.frozen 0, hb.frozen 1, hb.frozen 2, hb.frozen 3, hb.frozen 4, hb.frozen 5, hb.frozen 6⟩
section
variable {l : List Ass} {w0 w w' : World} {c : Nat} {q : Cs × Bool}
set_option maxRecDepth 100000 in
set_option maxHeartbeats 4000000 in
theorem codeGroup_any [Stable (Sep l)] {x : GroupC} (h : St Zf (CoA c q.1 q.2 :: l) w0 w) (hs : q.1.len ≤ 9000) :
    Calls Try.prog 65 #[.pointer (some ⟨c, 0, none⟩), .agg #[.bool x.lv, .int .i64 x.ty, .int .i64 x.ow, .int .i64 x.ou, .int .i64 x.ni, .int .i64 x.lp, .int .i64 x.nx], .func (.func 49) #[] #[]] w fun e w' => e = .returned (.tuple #[if (groupQ q x).1.endE (groupQ q x).2 = 0 then .agg #[.bool x.lv, .int .i64 (groupV q x).ty, .int .i64 (groupV q x).ow, .int .i64 (groupV q x).ou, .int .i64 (groupV q x).ni, .int .i64 (groupV q x).lp, .int .i64 (groupV q x).nx] else .agg #[.bool false, .int .i64 0, .int .i64 0, .int .i64 0, .int .i64 0, .int .i64 0, .int .i64 0], .int .i64 ((groupQ q x).1.endE (groupQ q x).2)]) ∧ St Zf (CoA c (groupQ q x).1 (groupQ q x).2 :: l) w0 w' := by
  have HF := fun (w1 : World) (n : Nat) (l' : List Ass) (hl : Stable (Sep l')) (h1 : St Zf (CoA c q.1 q.2 :: BlkA n 91 #[.bool x.lv, .int .i64 x.ty, .int .i64 x.ow, .int .i64 x.ou, .int .i64 x.ni, .int .i64 x.lp, .int .i64 x.nx] :: l') w0 w1) => groupFields_any h1 hs
  obtain ⟨cx, hcx⟩ : ∃ cx : Array Value, cx = #[.bool x.lv, .int .i64 x.ty, .int .i64 x.ow, .int .i64 x.ou, .int .i64 x.ni, .int .i64 x.lp, .int .i64 x.nx] := ⟨_, rfl⟩
  obtain ⟨cy, hcy⟩ : ∃ cy : Array Value, cy = #[.bool x.lv, .int .i64 (groupV q x).ty, .int .i64 (groupV q x).ow, .int .i64 (groupV q x).ou, .int .i64 (groupV q x).ni, .int .i64 (groupV q x).lp, .int .i64 (groupV q x).nx] := ⟨_, rfl⟩
  obtain ⟨cz, hcz⟩ : ∃ cz : Array Value, cz = #[.bool false, .int .i64 0, .int .i64 0, .int .i64 0, .int .i64 0, .int .i64 0, .int .i64 0] := ⟨_, rfl⟩
  have sx : cx.size = 7 := by rw [hcx]; rfl
  have sy : cy.size = 7 := by rw [hcy]; rfl
  have sz : cz.size = 7 := by rw [hcz]; rfl
  have oy : cy.all (·.oneCell') = true := by rw [hcy, ← Array.all_toList]; rfl
  have oz : cz.all (·.oneCell') = true := by rw [hcz, ← Array.all_toList]; rfl
  have hiy : (Try.prog.info? 91).map (·.size) = some cy.size := by rw [sy]; kernel_rfl
  have hiz : (Try.prog.info? 91).map (·.size) = some cz.size := by rw [sz]; kernel_rfl
  rw [← hcx] at HF ⊢
  rw [← hcy] at HF ⊢
  rw [← hcz]
  have hzz := hcz
  clear hcx hcy
  have h1 : St Zf (CoA c q.1 q.2 :: BlkA w.heap.size 91 cx :: BlkA (w.heap.size + 1) 91 cz :: l) w0 ((w.alloc (.cells cx 91)).alloc (.cells cz 91)) := by
    have a := ((h.newBlk 91 cx).swap.newBlk 91 cz).back2
    simpa using a
  obtain ⟨w1, hw1⟩ : ∃ w1, w1 = ((w.alloc (.cells cx 91)).alloc (.cells cz 91)) := ⟨_, rfl⟩
  rw [← hw1] at h1
  have HF := Lib.hid (HF w1 w.heap.size _ inferInstance h1)
  obtain ⟨E, hE⟩ : ∃ E, E = (groupQ q x).1.endE (groupQ q x).2 := ⟨_, rfl⟩
  have HW1 := Lib.hid hw1
  rw [← hE]
  have HEA := fun (w2 : World) (h2 : St Zf (CoA c (groupQ q x).1 (groupQ q x).2 :: BlkA w.heap.size 91 cy :: BlkA (w.heap.size + 1) 91 cz :: l) w0 w2) => end_any h2
  rw [← hE] at HEA
  have HEA := Lib.hid HEA
  have HZ := Lib.hid hcz
  clear h h1 hE hw1 hcz hzz
  by_cases h0 : E = 0
  · subst h0
    go_enter Try.func65, Try.ntmps65
    go_wp2_with (first | (go_at_call 49; rw [← HZ.out, ← HW1.out]; refine (HF.out).mono ?_; rintro e w2 ⟨rfl, h2⟩) | (go_at_call 69; refine (HEA.out _ h2).mono ?_; rintro e w3 ⟨rfl, h3⟩; have hb3 := h3.swap.blk; have hr3 := h3.bring2.blk; have h4 := Lib.hid (h3.bring2.setRow cy)) | (refine wpList_load_row rfl 91 _ rfl w.heap.size rfl 91 cy (0, 0) _ hb3 Try.underlying91 rfl hiy ?_) | (refine wpList_store_row rfl 91 _ _ rfl (w.heap.size + 1) cy rfl rfl 91 cz hr3 hiy (by rw [sz, sy]) oy ?_))
    refine bodyPost_ret (results_row_tmp rfl _ _ (w.heap.size + 1) 91 cy _ rfl h4.out.blk Try.underlying91 rfl hiy) rfl ?_
    exact ⟨rfl, h4.out.drop.swap.drop⟩
  · have hb : (E != 0) = true := by simpa using h0
    simp only [if_neg h0]
    clear h0
    go_enter Try.func65, Try.ntmps65
    go_wp2_with (first | (go_at_call 49; rw [← HZ.out, ← HW1.out]; refine (HF.out).mono ?_; rintro e w2 ⟨rfl, h2⟩) | (go_at_call 69; refine (HEA.out _ h2).mono ?_; rintro e w3 ⟨rfl, h3⟩; have h3 := h3.newBlk 91 cz; have hb3 := h3.blk; have hr3 := h3.bring3.blk; have h4 := Lib.hid (h3.bring3.setRow cz)) | (rw [← HZ.out]; refine wpList_load_row rfl 91 _ rfl w3.heap.size rfl 91 cz (0, 0) _ hb3 Try.underlying91 rfl hiz ?_) | (refine wpList_store_row rfl 91 _ _ rfl (w.heap.size + 1) cz rfl rfl 91 cz hr3 hiz rfl oz ?_))
    refine bodyPost_ret (results_row_tmp rfl _ _ (w.heap.size + 1) 91 cz _ rfl h4.out.blk Try.underlying91 rfl hiz) rfl ?_
    exact ⟨rfl, h4.out.drop.drop.swap.drop⟩
end

/-- what PutGroup finds -/
def putGroupQ (x : GroupC) : Cs × Bool := groupQ (.w [], false) x
def putGroupE (x : GroupC) : Int := (putGroupQ x).1.endE (putGroupQ x).2

set_option maxRecDepth 100000 in
set_option maxHeartbeats 4000000 in
theorem writeGroup_any (x : GroupC) (w : World) :
    Calls Try.prog 48 #[.agg #[.bool x.lv, .int .i64 x.ty, .int .i64 x.ow, .int .i64 x.ou, .int .i64 x.ni, .int .i64 x.lp, .int .i64 x.nx], .func (.func 49) #[] #[]] w fun e w' => ∃ v, e = .returned (.tuple #[v, .int .i64 (putGroupE x)]) ∧ OB w' w.heap.size 5 v (if putGroupE x = 0 then (putGroupQ x).1.bytes else []) ∧ Below w.heap.size w w' := by
  have HC := fun (w1 : World) (c : Nat) (l' : List Ass) (hl : Stable (Sep l')) (h1 : St Zf (CoA c (.w []) false :: l') w w1) => codeGroup_any (q := (.w [], false)) (x := x) h1 (by simp [Cs.len])
  obtain ⟨cx, hcx⟩ : ∃ cx : Array Value, cx = #[.bool x.lv, .int .i64 x.ty, .int .i64 x.ow, .int .i64 x.ou, .int .i64 x.ni, .int .i64 x.lp, .int .i64 x.nx] := ⟨_, rfl⟩
  obtain ⟨cy, hcy⟩ : ∃ cy : Array Value, cy = #[.bool x.lv, .int .i64 (groupV (.w [], false) x).ty, .int .i64 (groupV (.w [], false) x).ow, .int .i64 (groupV (.w [], false) x).ou, .int .i64 (groupV (.w [], false) x).ni, .int .i64 (groupV (.w [], false) x).lp, .int .i64 (groupV (.w [], false) x).nx] := ⟨_, rfl⟩
  obtain ⟨cz, hcz⟩ : ∃ cz : Array Value, cz = #[.bool false, .int .i64 0, .int .i64 0, .int .i64 0, .int .i64 0, .int .i64 0, .int .i64 0] := ⟨_, rfl⟩
  have sx : cx.size = 7 := by rw [hcx]; rfl
  have sy : cy.size = 7 := by rw [hcy]; rfl
  have sz : cz.size = 7 := by rw [hcz]; rfl
  have oy : cy.all (·.oneCell') = true := by rw [hcy, ← Array.all_toList]; rfl
  have oz : cz.all (·.oneCell') = true := by rw [hcz, ← Array.all_toList]; rfl
  have hix : (Try.prog.info? 91).map (·.size) = some cx.size := by rw [sx]; kernel_rfl
  have hiy : (Try.prog.info? 91).map (·.size) = some cy.size := by rw [sy]; kernel_rfl
  have hiz : (Try.prog.info? 91).map (·.size) = some cz.size := by rw [sz]; kernel_rfl
  have hE : (groupQ (.w [], false) x).1.endE (groupQ (.w [], false) x).2 = putGroupE x := rfl
  have hQ : groupQ (.w [], false) x = putGroupQ x := rfl
  rw [hE, hQ, ← hcx, ← hcy, ← hcz] at HC
  rw [← hcx]
  have HZ := Lib.hid hcz
  clear hcx hcy hcz
  have h0 := (St.start Zf w).newBlk 91 cx
  have hbx0 := h0.blk
  have h1 := h0.newCoW
  have e0 : (w.alloc (.cells cx 91)).heap.size = w.heap.size + 1 := by simp
  rw [e0] at h1
  obtain ⟨w1, hw1⟩ : ∃ w1, w1 = (((w.alloc (.cells cx 91)).alloc (.cells #[.slice none 0 0] 124)).alloc (.cells #[.pointer (some ⟨w.heap.size + 1, 0, none⟩), .pointer none, .bool false] 103)) := ⟨_, rfl⟩
  rw [← hw1] at h1
  have hbx := h1.swap.blk
  have HC := Lib.hid (HC w1 _ _ inferInstance h1)
  have HNW := Lib.hid (NewWriter_any (w.alloc (.cells cx 91)))
  have hi : (putGroupQ x).1.isw = true := by rw [← hQ, groupQ_isw]; rfl
  have hl : (putGroupQ x).1.len ≤ 1000000 := by have hl0 : (((.w [], false) : Cs × Bool)).1.len = 0 := rfl; have := groupQ_len (.w [], false) x; rw [hQ, hl0] at this; omega
  obtain ⟨E, hE'⟩ : ∃ E, E = putGroupE x := ⟨_, rfl⟩
  obtain ⟨q, hq⟩ : ∃ q, q = putGroupQ x := ⟨_, rfl⟩
  rw [← hE', ← hq] at HC
  rw [← hE', ← hq]
  rw [← hq] at hi hl
  have HW1 := Lib.hid hw1
  have HI := Lib.hid hi
  have HL := Lib.hid hl
  have HBX := Lib.hid hbx
  clear h0 h1 hw1 hE hQ hE' hq e0 hi hl hbx0 hbx
  by_cases h0 : E = 0
  · subst h0
    simp only at HC ⊢
    go_enter Try.func48, Try.ntmps48
    go_wp2_with (first | (go_at_call 52; refine (HNW.out).mono ?_; rintro e w2 ⟨rfl, rfl⟩) | (rw [← HW1.out]; refine wpList_load_row rfl 91 _ rfl w.heap.size rfl 91 cx (0, 0) _ HBX.out Try.underlying91 rfl hix ?_) | (go_at_call 65; refine (HC.out).mono ?_; rintro e w3 ⟨rfl, h3⟩; have h4 := h3.newBlk 91 cz; have hr4 := h4.blk; have h5 := h4.setRow cy; obtain ⟨g2, k0, HB⟩ := bytes_co h5.swap HI.out (Nat.le_trans HL.out (by decide)); have HB := Lib.hid HB; have H4 := Lib.hid h5; clear h3 h4 h5) | (rw [← HZ.out]; refine wpList_store_row rfl 91 _ _ rfl w3.heap.size cy rfl rfl 91 cz hr4 hiy (by rw [sz, sy]) oy ?_) | (go_at_call 54; refine (HB.out).mono ?_; rintro e w5 ⟨v5, rfl, ho5, hb5⟩))
    go_ret2
    have hb4 := H4.out.bel
    exact ⟨v5, rfl, ho5.mono hb4.size, hb4.trans (hb5.mono hb4.size)⟩
  · have hb : (E != 0) = true := by simpa using h0
    simp only [if_neg h0] at HC ⊢
    clear h0
    go_enter Try.func48, Try.ntmps48
    go_wp2_with (first | (go_at_call 52; refine (HNW.out).mono ?_; rintro e w2 ⟨rfl, rfl⟩) | (rw [← HW1.out]; refine wpList_load_row rfl 91 _ rfl w.heap.size rfl 91 cx (0, 0) _ HBX.out Try.underlying91 rfl hix ?_) | (go_at_call 65; refine (HC.out).mono ?_; rintro e w3 ⟨rfl, h3⟩; have h4 := h3.newBlk 91 cz; have hr4 := h4.blk; have h5 := h4.setRow cz; have H4 := Lib.hid h5; clear h3 h4 h5) | (rw [← HZ.out]; refine wpList_store_row rfl 91 _ _ rfl w3.heap.size cz rfl rfl 91 cz hr4 hiz rfl oz ?_))
    go_ret2
    exact ⟨_, rfl, OB.nil _ _ _, H4.out.bel⟩

set_option maxRecDepth 100000 in
set_option maxHeartbeats 1000000 in
theorem PutGroup_any (x : GroupC) (w : World) :
    Calls Try.prog 26 #[.agg #[.bool x.lv, .int .i64 x.ty, .int .i64 x.ow, .int .i64 x.ou, .int .i64 x.ni, .int .i64 x.lp, .int .i64 x.nx]] w fun e w' => ∃ v, e = .returned (.tuple #[v, .int .i64 (putGroupE x)]) ∧ OB w' w.heap.size 5 v (if putGroupE x = 0 then (putGroupQ x).1.bytes else []) ∧ Below w.heap.size w w' := by
  have H := fun w1 => writeGroup_any x w1
  obtain ⟨cx, hcx⟩ : ∃ cx : Array Value, cx = #[.bool x.lv, .int .i64 x.ty, .int .i64 x.ow, .int .i64 x.ou, .int .i64 x.ni, .int .i64 x.lp, .int .i64 x.nx] := ⟨_, rfl⟩
  have sx : cx.size = 7 := by rw [hcx]; rfl
  have hix : (Try.prog.info? 56).map (·.size) = some cx.size := by rw [sx]; kernel_rfl
  rw [← hcx] at H ⊢
  have H := Lib.hid (H (w.alloc (.cells cx 56)))
  obtain ⟨Y, hY⟩ : ∃ Y, Y = (if putGroupE x = 0 then (putGroupQ x).1.bytes else []) := ⟨_, rfl⟩
  rw [← hY] at H ⊢
  have hbx := heap_alloc_new w (.cells cx 56)
  have HBX := Lib.hid hbx
  clear hY hcx hbx
  go_enter Try.func26, Try.ntmps26
  go_wp2_with (first | (go_at_call 48; refine (H.out).mono ?_; rintro e w2 ⟨v, rfl, ho, hb⟩) | (refine wpList_load_row rfl 56 _ rfl w.heap.size rfl 56 cx (0, 0) _ HBX.out Try.underlying56 rfl hix ?_))
  go_ret2
  exact ⟨v, rfl, ho.mono (base' := w.heap.size) (by simp), ((Below.refl _ _).alloc (Nat.le_refl _) _).trans (hb.mono (by simp))⟩

end Go.Proofs.Ytmiiogailnjfpaa

/- A group's record: Read, Get of the program. Written by mkrc.py. -/
namespace Go.Proofs.Ytmiiogailnjfpaa
open Go.RowKit
set_option linter.unusedVariables false
/-- what GetGroup finds -/
def getGroupQ (bs : List Nat) : Cs × Bool := groupQ (.r bs 0, false) ⟨true, 0, 0, 0, 0, 0, 0⟩
def getGroupE (bs : List Nat) : Int := (getGroupQ bs).1.endE (getGroupQ bs).2
def getGroupV (bs : List Nat) : GroupC := groupV (.r bs 0, false) ⟨true, 0, 0, 0, 0, 0, 0⟩
def GroupReadB (y : GroupC) (E : Int) (w : World) (e : Ending) (w' : World) : Prop :=
  e = .returned (.tuple #[if E = 0 then .agg #[.bool true, .int .i64 y.ty, .int .i64 y.ow, .int .i64 y.ou, .int .i64 y.ni, .int .i64 y.lp, .int .i64 y.nx] else .agg #[.bool false, .int .i64 0, .int .i64 0, .int .i64 0, .int .i64 0, .int .i64 0, .int .i64 0], .int .i64 E]) ∧ St Zf [] w w'
def GroupRead (bs : List Nat) (w : World) (e : Ending) (w' : World) : Prop := GroupReadB (getGroupV bs) (getGroupE bs) w e w'

set_option maxHeartbeats 4000000 in
theorem readGroup_any (A : Option Addr) (cap B : Nat) (bs : List Nat) (w : World) (hr : RB w B A bs) (hB : B ≤ w.heap.size) (hl : bs.length ≤ 140737488355328) :
    Calls Try.prog 51 #[.slice A bs.length cap, .agg #[.bool true, .int .i64 0, .int .i64 0, .int .i64 0, .int .i64 0, .int .i64 0, .int .i64 0], .func (.func 49) #[] #[]] w (GroupRead bs w) := by
  obtain ⟨wo, hwo⟩ : ∃ wo, wo = (w.alloc (.cells #[.bool true, .int .i64 0, .int .i64 0, .int .i64 0, .int .i64 0, .int .i64 0, .int .i64 0] 91)).alloc (.cells #[.bool false, .int .i64 0, .int .i64 0, .int .i64 0, .int .i64 0, .int .i64 0, .int .i64 0] 91) := ⟨_, rfl⟩
  have h0 : St Zf [BlkA (w.heap.size + 1) 91 #[.bool false, .int .i64 0, .int .i64 0, .int .i64 0, .int .i64 0, .int .i64 0, .int .i64 0], BlkA w.heap.size 91 #[.bool true, .int .i64 0, .int .i64 0, .int .i64 0, .int .i64 0, .int .i64 0, .int .i64 0]] w wo := by
    have := ((St.start Zf w).newBlk 91 #[.bool true, .int .i64 0, .int .i64 0, .int .i64 0, .int .i64 0, .int .i64 0, .int .i64 0]).newBlk 91 #[.bool false, .int .i64 0, .int .i64 0, .int .i64 0, .int .i64 0, .int .i64 0, .int .i64 0]
    rw [hwo]
    simpa using this
  have HF : Hid (∀ W, St Zf [BlkA (w.heap.size + 1) 91 #[.bool false, .int .i64 0, .int .i64 0, .int .i64 0, .int .i64 0, .int .i64 0, .int .i64 0], BlkA w.heap.size 91 #[.bool true, .int .i64 0, .int .i64 0, .int .i64 0, .int .i64 0, .int .i64 0, .int .i64 0]] w W → (W.cell? ⟨w.heap.size, 0, none⟩ = some (.bool true) ∧ W.cell? ⟨w.heap.size, 1, none⟩ = some (.int .i64 0) ∧ W.cell? ⟨w.heap.size, 2, none⟩ = some (.int .i64 0) ∧ W.cell? ⟨w.heap.size, 3, none⟩ = some (.int .i64 0) ∧ W.cell? ⟨w.heap.size, 4, none⟩ = some (.int .i64 0) ∧ W.cell? ⟨w.heap.size, 5, none⟩ = some (.int .i64 0) ∧ W.cell? ⟨w.heap.size, 6, none⟩ = some (.int .i64 0)) ∧ (W.cell? ⟨w.heap.size + 1, 0, none⟩ = some (.bool false) ∧ W.cell? ⟨w.heap.size + 1, 1, none⟩ = some (.int .i64 0) ∧ W.cell? ⟨w.heap.size + 1, 2, none⟩ = some (.int .i64 0) ∧ W.cell? ⟨w.heap.size + 1, 3, none⟩ = some (.int .i64 0) ∧ W.cell? ⟨w.heap.size + 1, 4, none⟩ = some (.int .i64 0) ∧ W.cell? ⟨w.heap.size + 1, 5, none⟩ = some (.int .i64 0) ∧ W.cell? ⟨w.heap.size + 1, 6, none⟩ = some (.int .i64 0)) ∧ (W.frozen? ⟨w.heap.size + 1, 0, none⟩ = false ∧ W.frozen? ⟨w.heap.size + 1, 1, none⟩ = false ∧ W.frozen? ⟨w.heap.size + 1, 2, none⟩ = false ∧ W.frozen? ⟨w.heap.size + 1, 3, none⟩ = false ∧ W.frozen? ⟨w.heap.size + 1, 4, none⟩ = false ∧ W.frozen? ⟨w.heap.size + 1, 5, none⟩ = false ∧ W.frozen? ⟨w.heap.size + 1, 6, none⟩ = false)) := Lib.hid fun W h => ⟨cellsgroup h.swap, cellsgroup h, frozgroup h⟩
  have HN : Hid (∀ W, Below wo.heap.size wo W → Calls Try.prog 60 #[.slice A bs.length cap] W fun e W' => ∃ g, e = .returned (.pointer (some ⟨g, 0, none⟩)) ∧ St Zf [RdA g bs 0, BlkA (w.heap.size + 1) 91 #[.bool false, .int .i64 0, .int .i64 0, .int .i64 0, .int .i64 0, .int .i64 0, .int .i64 0], BlkA w.heap.size 91 #[.bool true, .int .i64 0, .int .i64 0, .int .i64 0, .int .i64 0, .int .i64 0, .int .i64 0]] w W') := Lib.hid fun W hb => by
    have h1 := h0.below hb
    have hr1 := h1.rb hr hB
    refine (NewReader_any A cap B bs W hr1 (by have := h1.size; omega) hl).mono ?_
    rintro e W' ⟨g, q, rfl, hR, hb1⟩
    refine ⟨g, rfl, h1.add (F := fun k => k = g ∨ k = q) hb1 ⟨q, ?_, rfl⟩ ?_⟩
    · obtain ⟨A', c', k1, k2, k3, k4, k5, k6, k7, k8, k9⟩ := hR
      exact ⟨A', c', k1, k2, k3, k4, k5, Nat.zero_le _, Nat.zero_le _, k8, k9⟩
    · rintro k (rfl | rfl)
      · exact hR.lt.1
      · exact hR.lt.2.1
  unfold GroupRead GroupReadB
  obtain ⟨E, hE⟩ : ∃ E, E = getGroupE bs := ⟨_, rfl⟩
  obtain ⟨y, hy⟩ : ∃ y, y = getGroupV bs := ⟨_, rfl⟩
  have HC : Hid (∀ g w3, St Zf [RdA g bs 0, BlkA (w.heap.size + 1) 91 #[.bool false, .int .i64 0, .int .i64 0, .int .i64 0, .int .i64 0, .int .i64 0, .int .i64 0], BlkA w.heap.size 91 #[.bool true, .int .i64 0, .int .i64 0, .int .i64 0, .int .i64 0, .int .i64 0, .int .i64 0]] w w3 → Calls Try.prog 65 #[.pointer (some ⟨w3.heap.size, 0, none⟩), .agg #[.bool true, .int .i64 0, .int .i64 0, .int .i64 0, .int .i64 0, .int .i64 0, .int .i64 0], .func (.func 49) #[] #[]] (w3.alloc (.cells #[.pointer none, .pointer (some ⟨g, 0, none⟩), .bool false] 103)) fun e W' => e = .returned (.tuple #[if E = 0 then .agg #[.bool true, .int .i64 y.ty, .int .i64 y.ow, .int .i64 y.ou, .int .i64 y.ni, .int .i64 y.lp, .int .i64 y.nx] else .agg #[.bool false, .int .i64 0, .int .i64 0, .int .i64 0, .int .i64 0, .int .i64 0, .int .i64 0], .int .i64 E]) ∧ St Zf [BlkA (w.heap.size + 1) 91 #[.bool false, .int .i64 0, .int .i64 0, .int .i64 0, .int .i64 0, .int .i64 0, .int .i64 0], BlkA w.heap.size 91 #[.bool true, .int .i64 0, .int .i64 0, .int .i64 0, .int .i64 0, .int .i64 0, .int .i64 0]] w W') := Lib.hid fun g w3 h3 => by
    have h4 := co_shutR (h3.newBlk 103 #[.pointer none, .pointer (some ⟨g, 0, none⟩), .bool false])
    subst hE hy
    refine (codeGroup_any (q := (.r bs 0, false)) (x := ⟨true, 0, 0, 0, 0, 0, 0⟩) h4 (by simp [Cs.len])).mono ?_
    rintro e W' ⟨rfl, h5⟩
    exact ⟨rfl, h5.drop⟩
  have hb0 : Below wo.heap.size wo wo.drew := ⟨rfl, rfl, rfl, Nat.le_refl _, fun _ _ => rfl⟩
  obtain ⟨⟨c0, c1, c2, c3, c4, c5, c6⟩, ⟨u0, u1, u2, u3, u4, u5, u6⟩, ⟨f0, f1, f2, f3, f4, f5, f6⟩⟩ := HF.out wo h0
  have Hwo := Lib.hid hwo
  rw [← hE, ← hy]
  clear hwo hr h0 hE hy
  by_cases h0 : E = 0
  · subst h0
    simp only at HC ⊢
    go_enter Try.func51, Try.ntmps51
    go_wp2
    rw [← Hwo.out]
    go_region_held3 (fun w' => w'.cell? ⟨w.heap.size, 0, none⟩ = some (.bool true) ∧ w'.cell? ⟨w.heap.size, 1, none⟩ = some (.int .i64 0) ∧ w'.cell? ⟨w.heap.size, 2, none⟩ = some (.int .i64 0) ∧ w'.cell? ⟨w.heap.size, 3, none⟩ = some (.int .i64 0) ∧ w'.cell? ⟨w.heap.size, 4, none⟩ = some (.int .i64 0) ∧ w'.cell? ⟨w.heap.size, 5, none⟩ = some (.int .i64 0) ∧ w'.cell? ⟨w.heap.size, 6, none⟩ = some (.int .i64 0)) (go_keep)
      ((first
        | (go_at_call 60; refine (HN.out _ hb0).mono ?_; rintro e w3 ⟨g, rfl, h3⟩; have kN := HF.out _ h3.drop; obtain ⟨⟨_, _, _, _, _, _, _⟩, ⟨_, _, _, _, _, _, _⟩, ⟨_, _, _, _, _, _, _⟩⟩ := kN)
        | (go_at_call 65; refine (HC.out _ _ h3).mono ?_; rintro e w4 ⟨rfl, h4⟩; have kC := HF.out _ h4; obtain ⟨⟨_, _, _, _, _, _, _⟩, ⟨_, _, _, _, _, _, _⟩, ⟨_, _, _, _, _, _, _⟩⟩ := kC)))
    have h5 := (((((((h4.setBlk 0 (.bool true)).setBlk 1 (.int .i64 y.ty)).setBlk 2 (.int .i64 y.ow)).setBlk 3 (.int .i64 y.ou)).setBlk 4 (.int .i64 y.ni)).setBlk 5 (.int .i64 y.lp)).setBlk 6 (.int .i64 y.nx))
    go_wp2
    try simp only [Exit.inBlock, Exit.then]
    refine bodyPost_ret (results_row_tmp rfl _ _ (w.heap.size + 1) 91 #[.bool true, .int .i64 y.ty, .int .i64 y.ow, .int .i64 y.ou, .int .i64 y.ni, .int .i64 y.lp, .int .i64 y.nx] _ rfl h5.blk Try.underlying91 rfl (by kernel_rfl)) rfl ?_
    exact ⟨rfl, h5.drop.drop⟩
  · simp only [if_neg h0] at HC ⊢
    clear h0
    go_enter Try.func51, Try.ntmps51
    go_wp2
    rw [← Hwo.out]
    go_region_held3 (fun w' => w'.cell? ⟨w.heap.size, 0, none⟩ = some (.bool true) ∧ w'.cell? ⟨w.heap.size, 1, none⟩ = some (.int .i64 0) ∧ w'.cell? ⟨w.heap.size, 2, none⟩ = some (.int .i64 0) ∧ w'.cell? ⟨w.heap.size, 3, none⟩ = some (.int .i64 0) ∧ w'.cell? ⟨w.heap.size, 4, none⟩ = some (.int .i64 0) ∧ w'.cell? ⟨w.heap.size, 5, none⟩ = some (.int .i64 0) ∧ w'.cell? ⟨w.heap.size, 6, none⟩ = some (.int .i64 0)) (go_keep)
      ((first
        | (go_at_call 60; refine (HN.out _ hb0).mono ?_; rintro e w3 ⟨g, rfl, h3⟩; have kN := HF.out _ h3.drop; obtain ⟨⟨_, _, _, _, _, _, _⟩, ⟨_, _, _, _, _, _, _⟩, ⟨_, _, _, _, _, _, _⟩⟩ := kN)
        | (go_at_call 65; refine (HC.out _ _ h3).mono ?_; rintro e w4 ⟨rfl, h4⟩; have kC := HF.out _ h4; obtain ⟨⟨_, _, _, _, _, _, _⟩, ⟨_, _, _, _, _, _, _⟩, ⟨_, _, _, _, _, _, _⟩⟩ := kC)))
    have h5 := (((((((h4.setBlk 0 (.bool false)).setBlk 1 (.int .i64 0)).setBlk 2 (.int .i64 0)).setBlk 3 (.int .i64 0)).setBlk 4 (.int .i64 0)).setBlk 5 (.int .i64 0)).setBlk 6 (.int .i64 0))
    go_wp2
    try simp only [Exit.inBlock, Exit.then]
    refine bodyPost_ret (results_row_tmp rfl _ _ (w.heap.size + 1) 91 #[.bool false, .int .i64 0, .int .i64 0, .int .i64 0, .int .i64 0, .int .i64 0, .int .i64 0] _ rfl h5.blk Try.underlying91 rfl (by kernel_rfl)) rfl ?_
    exact ⟨rfl, h5.drop.drop⟩

set_option maxHeartbeats 4000000 in
theorem GetGroup_any (A : Option Addr) (cap B : Nat) (bs : List Nat) (w : World) (hr : RB w B A bs) (hB : B ≤ w.heap.size) (hl : bs.length ≤ 140737488355328) :
    Calls Try.prog 28 #[.slice A bs.length cap] w (GroupRead bs w) := by
  have h0 : St Zf [BlkA w.heap.size 56 #[.bool false, .int .i64 0, .int .i64 0, .int .i64 0, .int .i64 0, .int .i64 0, .int .i64 0]] w (w.alloc (.cells #[.bool false, .int .i64 0, .int .i64 0, .int .i64 0, .int .i64 0, .int .i64 0, .int .i64 0] 56)) := (St.start Zf w).newBlk _ _
  obtain ⟨wo, hwo⟩ : ∃ wo, wo = (w.alloc (.cells #[.bool false, .int .i64 0, .int .i64 0, .int .i64 0, .int .i64 0, .int .i64 0, .int .i64 0] 56)) := ⟨_, rfl⟩
  rw [← hwo] at h0
  have H := Lib.hid (readGroup_any A cap B bs wo (h0.rb hr hB) (by have := h0.size; omega) hl)
  have H0 := Lib.hid h0
  have Hwo := Lib.hid hwo
  unfold GroupRead GroupReadB at H ⊢
  obtain ⟨E, hE⟩ : ∃ E, E = getGroupE bs := ⟨_, rfl⟩
  obtain ⟨y, hy⟩ : ∃ y, y = getGroupV bs := ⟨_, rfl⟩
  rw [← hE, ← hy] at H
  rw [← hE, ← hy]
  clear hwo hr h0 hE hy
  by_cases h0 : E = 0
  · subst h0
    simp only at H ⊢
    go_enter Try.func28, Try.ntmps28
    go_wp2_with (go_at_call 51; rw [← Hwo.out]; refine (H.out).mono ?_; rintro e w3 ⟨rfl, h3⟩; have h4 := (H0.out.below h3.bel).newBlk 91 #[.bool true, .int .i64 y.ty, .int .i64 y.ow, .int .i64 y.ou, .int .i64 y.ni, .int .i64 y.lp, .int .i64 y.nx]; obtain ⟨u0, u1, u2, u3, u4, u5, u6⟩ := cellsgroup h4.swap; obtain ⟨f0, f1, f2, f3, f4, f5, f6⟩ := frozgroup h4.swap; have h5 := Lib.hid (((((((h4.swap.setBlk 0 (.bool true)).setBlk 1 (.int .i64 y.ty)).setBlk 2 (.int .i64 y.ow)).setBlk 3 (.int .i64 y.ou)).setBlk 4 (.int .i64 y.ni)).setBlk 5 (.int .i64 y.lp)).setBlk 6 (.int .i64 y.nx)); clear h3 h4)
    try simp only [Exit.inBlock, Exit.then]
    refine bodyPost_ret (results_row_tmp rfl _ _ w.heap.size 56 #[.bool true, .int .i64 y.ty, .int .i64 y.ow, .int .i64 y.ou, .int .i64 y.ni, .int .i64 y.lp, .int .i64 y.nx] _ rfl h5.out.blk Try.underlying56 rfl (by kernel_rfl)) rfl ?_
    exact ⟨rfl, h5.out.drop.drop⟩
  · simp only [if_neg h0] at H ⊢
    clear h0
    go_enter Try.func28, Try.ntmps28
    go_wp2_with (go_at_call 51; rw [← Hwo.out]; refine (H.out).mono ?_; rintro e w3 ⟨rfl, h3⟩; have h4 := (H0.out.below h3.bel).newBlk 91 #[.bool false, .int .i64 0, .int .i64 0, .int .i64 0, .int .i64 0, .int .i64 0, .int .i64 0]; obtain ⟨u0, u1, u2, u3, u4, u5, u6⟩ := cellsgroup h4.swap; obtain ⟨f0, f1, f2, f3, f4, f5, f6⟩ := frozgroup h4.swap; have h5 := Lib.hid (((((((h4.swap.setBlk 0 (.bool false)).setBlk 1 (.int .i64 0)).setBlk 2 (.int .i64 0)).setBlk 3 (.int .i64 0)).setBlk 4 (.int .i64 0)).setBlk 5 (.int .i64 0)).setBlk 6 (.int .i64 0)); clear h3 h4)
    try simp only [Exit.inBlock, Exit.then]
    refine bodyPost_ret (results_row_tmp rfl _ _ w.heap.size 56 #[.bool false, .int .i64 0, .int .i64 0, .int .i64 0, .int .i64 0, .int .i64 0, .int .i64 0] _ rfl h5.out.blk Try.underlying56 rfl (by kernel_rfl)) rfl ?_
    exact ⟨rfl, h5.out.drop.drop⟩

end Go.Proofs.Ytmiiogailnjfpaa
