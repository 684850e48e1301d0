/- A rel's record: code, Write, Read, Put, Get of the program. Written by mkrc.py. -/
import Derived.Test.YtpoaokkmmoeekaaRcRelF
import Derived.Test.YtpoaokkmmoeekaaRcNode2
namespace Go.Proofs.Ytpoaokkmmoeekaa
open Go.RowKit
set_option linter.unusedVariables false

theorem cellsrel {S : Fp} {l : List Ass} {w0 w : World} {g : Nat} {t : TypeId} {a0 a1 a2 a3 a4 a5 a6 a7 a8 : Value} (h : St S (BlkA g t #[a0, a1, a2, a3, a4, a5, a6, a7, a8] :: l) w0 w) : w.cell? ⟨g, 0, none⟩ = some a0 ∧ w.cell? ⟨g, 1, none⟩ = some a1 ∧ w.cell? ⟨g, 2, none⟩ = some a2 ∧ w.cell? ⟨g, 3, none⟩ = some a3 ∧ w.cell? ⟨g, 4, none⟩ = some a4 ∧ w.cell? ⟨g, 5, none⟩ = some a5 ∧ w.cell? ⟨g, 6, none⟩ = some a6 ∧ w.cell? ⟨g, 7, none⟩ = some a7 ∧ w.cell? ⟨g, 8, none⟩ = some a8 := by
  have hb := h.blk
  exact ⟨by rw [hb.cell 0]; rfl, by rw [hb.cell 1]; rfl, by rw [hb.cell 2]; rfl, by rw [hb.cell 3]; rfl, by rw [hb.cell 4]; rfl, by rw [hb.cell 5]; rfl, by rw [hb.cell 6]; rfl, by rw [hb.cell 7]; rfl, by rw [hb.cell 8]; rfl⟩
theorem frozrel {S : Fp} {l : List Ass} {w0 w : World} {g : Nat} {t : TypeId} {cs : Array Value} (h : St S (BlkA g t cs :: l) w0 w) : w.frozen? ⟨g, 0, none⟩ = false ∧ w.frozen? ⟨g, 1, none⟩ = false ∧ w.frozen? ⟨g, 2, none⟩ = false ∧ w.frozen? ⟨g, 3, none⟩ = false ∧ w.frozen? ⟨g, 4, none⟩ = false ∧ w.frozen? ⟨g, 5, none⟩ = false ∧ w.frozen? ⟨g, 6, none⟩ = false ∧ w.frozen? ⟨g, 7, none⟩ = false ∧ w.frozen? ⟨g, 8, none⟩ = false := by
  have hb := h.blk
  exact ⟨hb.frozen 0, hb.frozen 1, hb.frozen 2, hb.frozen 3, hb.frozen 4, hb.frozen 5, hb.frozen 6, hb.frozen 7, hb.frozen 8⟩
section
variable {l : List Ass} {w0 w w' : World} {c : Nat} {q : Cs × Bool}
set_option maxRecDepth 100000 in
set_option maxHeartbeats 4000000 in
theorem codeRel_any [Stable (Sep l)] {x : RelC} (h : St Zf (CoA c q.1 q.2 :: l) w0 w) (hs : q.1.len ≤ 9000) :
    Calls Try.prog 54 #[.pointer (some ⟨c, 0, none⟩), .agg #[.bool x.lv, .int .i64 x.fr, .int .i64 x.to, .int .i64 x.fp, .int .i64 x.tp, .int .i64 x.fn, .int .i64 x.tn, .int .i64 x.ty, .int .i64 x.pr], .func (.func 38) #[] #[]] w fun e w' => e = .returned (.tuple #[if (relQ q x).1.endE (relQ q x).2 = 0 then .agg #[.bool x.lv, .int .i64 (relV q x).fr, .int .i64 (relV q x).to, .int .i64 (relV q x).fp, .int .i64 (relV q x).tp, .int .i64 (relV q x).fn, .int .i64 (relV q x).tn, .int .i64 (relV q x).ty, .int .i64 (relV q x).pr] else .agg #[.bool false, .int .i64 0, .int .i64 0, .int .i64 0, .int .i64 0, .int .i64 0, .int .i64 0, .int .i64 0, .int .i64 0], .int .i64 ((relQ q x).1.endE (relQ q x).2)]) ∧ St Zf (CoA c (relQ q x).1 (relQ q x).2 :: l) w0 w' := by
  have HF := fun (w1 : World) (n : Nat) (l' : List Ass) (hl : Stable (Sep l')) (h1 : St Zf (CoA c q.1 q.2 :: BlkA n 77 #[.bool x.lv, .int .i64 x.fr, .int .i64 x.to, .int .i64 x.fp, .int .i64 x.tp, .int .i64 x.fn, .int .i64 x.tn, .int .i64 x.ty, .int .i64 x.pr] :: l') w0 w1) => relFields_any h1 hs
  obtain ⟨cx, hcx⟩ : ∃ cx : Array Value, cx = #[.bool x.lv, .int .i64 x.fr, .int .i64 x.to, .int .i64 x.fp, .int .i64 x.tp, .int .i64 x.fn, .int .i64 x.tn, .int .i64 x.ty, .int .i64 x.pr] := ⟨_, rfl⟩
  obtain ⟨cy, hcy⟩ : ∃ cy : Array Value, cy = #[.bool x.lv, .int .i64 (relV q x).fr, .int .i64 (relV q x).to, .int .i64 (relV q x).fp, .int .i64 (relV q x).tp, .int .i64 (relV q x).fn, .int .i64 (relV q x).tn, .int .i64 (relV q x).ty, .int .i64 (relV q x).pr] := ⟨_, rfl⟩
  obtain ⟨cz, hcz⟩ : ∃ cz : Array Value, cz = #[.bool false, .int .i64 0, .int .i64 0, .int .i64 0, .int .i64 0, .int .i64 0, .int .i64 0, .int .i64 0, .int .i64 0] := ⟨_, rfl⟩
  have sx : cx.size = 9 := by rw [hcx]; rfl
  have sy : cy.size = 9 := by rw [hcy]; rfl
  have sz : cz.size = 9 := by rw [hcz]; rfl
  have oy : cy.all (·.oneCell') = true := by rw [hcy, ← Array.all_toList]; rfl
  have oz : cz.all (·.oneCell') = true := by rw [hcz, ← Array.all_toList]; rfl
  have hiy : (Try.prog.info? 77).map (·.size) = some cy.size := by rw [sy]; kernel_rfl
  have hiz : (Try.prog.info? 77).map (·.size) = some cz.size := by rw [sz]; kernel_rfl
  rw [← hcx] at HF ⊢
  rw [← hcy] at HF ⊢
  rw [← hcz]
  have hzz := hcz
  clear hcx hcy
  have h1 : St Zf (CoA c q.1 q.2 :: BlkA w.heap.size 77 cx :: BlkA (w.heap.size + 1) 77 cz :: l) w0 ((w.alloc (.cells cx 77)).alloc (.cells cz 77)) := by
    have a := ((h.newBlk 77 cx).swap.newBlk 77 cz).back2
    simpa using a
  obtain ⟨w1, hw1⟩ : ∃ w1, w1 = ((w.alloc (.cells cx 77)).alloc (.cells cz 77)) := ⟨_, rfl⟩
  rw [← hw1] at h1
  have HF := Lib.hid (HF w1 w.heap.size _ inferInstance h1)
  obtain ⟨E, hE⟩ : ∃ E, E = (relQ q x).1.endE (relQ q x).2 := ⟨_, rfl⟩
  have HW1 := Lib.hid hw1
  rw [← hE]
  have HEA := fun (w2 : World) (h2 : St Zf (CoA c (relQ q x).1 (relQ q x).2 :: BlkA w.heap.size 77 cy :: BlkA (w.heap.size + 1) 77 cz :: l) w0 w2) => end_any h2
  rw [← hE] at HEA
  have HEA := Lib.hid HEA
  have HZ := Lib.hid hcz
  clear h h1 hE hw1 hcz hzz
  by_cases h0 : E = 0
  · subst h0
    go_enter Try.func54, Try.ntmps54
    go_wp2_with (first | (go_at_call 38; rw [← HZ.out, ← HW1.out]; refine (HF.out).mono ?_; rintro e w2 ⟨rfl, h2⟩) | (go_at_call 63; refine (HEA.out _ h2).mono ?_; rintro e w3 ⟨rfl, h3⟩; have hb3 := h3.swap.blk; have hr3 := h3.bring2.blk; have h4 := Lib.hid (h3.bring2.setRow cy)) | (refine wpList_load_row rfl 77 _ rfl w.heap.size rfl 77 cy (0, 0) _ hb3 Try.underlying77 rfl hiy ?_) | (refine wpList_store_row rfl 77 _ _ rfl (w.heap.size + 1) cy rfl rfl 77 cz hr3 hiy (by rw [sz, sy]) oy ?_))
    refine bodyPost_ret (results_row_tmp rfl _ _ (w.heap.size + 1) 77 cy _ rfl h4.out.blk Try.underlying77 rfl hiy) rfl ?_
    exact ⟨rfl, h4.out.drop.swap.drop⟩
  · have hb : (E != 0) = true := by simpa using h0
    simp only [if_neg h0]
    clear h0
    go_enter Try.func54, Try.ntmps54
    go_wp2_with (first | (go_at_call 38; rw [← HZ.out, ← HW1.out]; refine (HF.out).mono ?_; rintro e w2 ⟨rfl, h2⟩) | (go_at_call 63; refine (HEA.out _ h2).mono ?_; rintro e w3 ⟨rfl, h3⟩; have h3 := h3.newBlk 77 cz; have hb3 := h3.blk; have hr3 := h3.bring3.blk; have h4 := Lib.hid (h3.bring3.setRow cz)) | (rw [← HZ.out]; refine wpList_load_row rfl 77 _ rfl w3.heap.size rfl 77 cz (0, 0) _ hb3 Try.underlying77 rfl hiz ?_) | (refine wpList_store_row rfl 77 _ _ rfl (w.heap.size + 1) cz rfl rfl 77 cz hr3 hiz rfl oz ?_))
    refine bodyPost_ret (results_row_tmp rfl _ _ (w.heap.size + 1) 77 cz _ rfl h4.out.blk Try.underlying77 rfl hiz) rfl ?_
    exact ⟨rfl, h4.out.drop.drop.swap.drop⟩
end

/-- what PutRel finds -/
def putRelQ (x : RelC) : Cs × Bool := relQ (.w [], false) x
def putRelE (x : RelC) : Int := (putRelQ x).1.endE (putRelQ x).2

set_option maxRecDepth 100000 in
set_option maxHeartbeats 4000000 in
theorem writeRel_any (x : RelC) (w : World) :
    Calls Try.prog 37 #[.agg #[.bool x.lv, .int .i64 x.fr, .int .i64 x.to, .int .i64 x.fp, .int .i64 x.tp, .int .i64 x.fn, .int .i64 x.tn, .int .i64 x.ty, .int .i64 x.pr], .func (.func 38) #[] #[]] w fun e w' => ∃ v, e = .returned (.tuple #[v, .int .i64 (putRelE x)]) ∧ OB w' w.heap.size 5 v (if putRelE x = 0 then (putRelQ x).1.bytes else []) ∧ Below w.heap.size w w' := by
  have HC := fun (w1 : World) (c : Nat) (l' : List Ass) (hl : Stable (Sep l')) (h1 : St Zf (CoA c (.w []) false :: l') w w1) => codeRel_any (q := (.w [], false)) (x := x) h1 (by simp [Cs.len])
  obtain ⟨cx, hcx⟩ : ∃ cx : Array Value, cx = #[.bool x.lv, .int .i64 x.fr, .int .i64 x.to, .int .i64 x.fp, .int .i64 x.tp, .int .i64 x.fn, .int .i64 x.tn, .int .i64 x.ty, .int .i64 x.pr] := ⟨_, rfl⟩
  obtain ⟨cy, hcy⟩ : ∃ cy : Array Value, cy = #[.bool x.lv, .int .i64 (relV (.w [], false) x).fr, .int .i64 (relV (.w [], false) x).to, .int .i64 (relV (.w [], false) x).fp, .int .i64 (relV (.w [], false) x).tp, .int .i64 (relV (.w [], false) x).fn, .int .i64 (relV (.w [], false) x).tn, .int .i64 (relV (.w [], false) x).ty, .int .i64 (relV (.w [], false) x).pr] := ⟨_, rfl⟩
  obtain ⟨cz, hcz⟩ : ∃ cz : Array Value, cz = #[.bool false, .int .i64 0, .int .i64 0, .int .i64 0, .int .i64 0, .int .i64 0, .int .i64 0, .int .i64 0, .int .i64 0] := ⟨_, rfl⟩
  have sx : cx.size = 9 := by rw [hcx]; rfl
  have sy : cy.size = 9 := by rw [hcy]; rfl
  have sz : cz.size = 9 := by rw [hcz]; rfl
  have oy : cy.all (·.oneCell') = true := by rw [hcy, ← Array.all_toList]; rfl
  have oz : cz.all (·.oneCell') = true := by rw [hcz, ← Array.all_toList]; rfl
  have hix : (Try.prog.info? 77).map (·.size) = some cx.size := by rw [sx]; kernel_rfl
  have hiy : (Try.prog.info? 77).map (·.size) = some cy.size := by rw [sy]; kernel_rfl
  have hiz : (Try.prog.info? 77).map (·.size) = some cz.size := by rw [sz]; kernel_rfl
  have hE : (relQ (.w [], false) x).1.endE (relQ (.w [], false) x).2 = putRelE x := rfl
  have hQ : relQ (.w [], false) x = putRelQ x := rfl
  rw [hE, hQ, ← hcx, ← hcy, ← hcz] at HC
  rw [← hcx]
  have HZ := Lib.hid hcz
  clear hcx hcy hcz
  have h0 := (St.start Zf w).newBlk 77 cx
  have hbx0 := h0.blk
  have h1 := h0.newCoW
  have e0 : (w.alloc (.cells cx 77)).heap.size = w.heap.size + 1 := by simp
  rw [e0] at h1
  obtain ⟨w1, hw1⟩ : ∃ w1, w1 = (((w.alloc (.cells cx 77)).alloc (.cells #[.slice none 0 0] 119)).alloc (.cells #[.pointer (some ⟨w.heap.size + 1, 0, none⟩), .pointer none, .bool false] 100)) := ⟨_, rfl⟩
  rw [← hw1] at h1
  have hbx := h1.swap.blk
  have HC := Lib.hid (HC w1 _ _ inferInstance h1)
  have HNW := Lib.hid (NewWriter_any (w.alloc (.cells cx 77)))
  have hi : (putRelQ x).1.isw = true := by rw [← hQ, relQ_isw]; rfl
  have hl : (putRelQ x).1.len ≤ 1000000 := by have hl0 : (((.w [], false) : Cs × Bool)).1.len = 0 := rfl; have := relQ_len (.w [], false) x; rw [hQ, hl0] at this; omega
  obtain ⟨E, hE'⟩ : ∃ E, E = putRelE x := ⟨_, rfl⟩
  obtain ⟨q, hq⟩ : ∃ q, q = putRelQ x := ⟨_, rfl⟩
  rw [← hE', ← hq] at HC
  rw [← hE', ← hq]
  rw [← hq] at hi hl
  have HW1 := Lib.hid hw1
  have HI := Lib.hid hi
  have HL := Lib.hid hl
  have HBX := Lib.hid hbx
  clear h0 h1 hw1 hE hQ hE' hq e0 hi hl hbx0 hbx
  by_cases h0 : E = 0
  · subst h0
    simp only at HC ⊢
    go_enter Try.func37, Try.ntmps37
    go_wp2_with (first | (go_at_call 48; refine (HNW.out).mono ?_; rintro e w2 ⟨rfl, rfl⟩) | (rw [← HW1.out]; refine wpList_load_row rfl 77 _ rfl w.heap.size rfl 77 cx (0, 0) _ HBX.out Try.underlying77 rfl hix ?_) | (go_at_call 54; refine (HC.out).mono ?_; rintro e w3 ⟨rfl, h3⟩; have h4 := h3.newBlk 77 cz; have hr4 := h4.blk; have h5 := h4.setRow cy; obtain ⟨g2, k0, HB⟩ := bytes_co h5.swap HI.out (Nat.le_trans HL.out (by decide)); have HB := Lib.hid HB; have H4 := Lib.hid h5; clear h3 h4 h5) | (rw [← HZ.out]; refine wpList_store_row rfl 77 _ _ rfl w3.heap.size cy rfl rfl 77 cz hr4 hiy (by rw [sz, sy]) oy ?_) | (go_at_call 50; refine (HB.out).mono ?_; rintro e w5 ⟨v5, rfl, ho5, hb5⟩))
    go_ret2
    have hb4 := H4.out.bel
    exact ⟨v5, rfl, ho5.mono hb4.size, hb4.trans (hb5.mono hb4.size)⟩
  · have hb : (E != 0) = true := by simpa using h0
    simp only [if_neg h0] at HC ⊢
    clear h0
    go_enter Try.func37, Try.ntmps37
    go_wp2_with (first | (go_at_call 48; refine (HNW.out).mono ?_; rintro e w2 ⟨rfl, rfl⟩) | (rw [← HW1.out]; refine wpList_load_row rfl 77 _ rfl w.heap.size rfl 77 cx (0, 0) _ HBX.out Try.underlying77 rfl hix ?_) | (go_at_call 54; refine (HC.out).mono ?_; rintro e w3 ⟨rfl, h3⟩; have h4 := h3.newBlk 77 cz; have hr4 := h4.blk; have h5 := h4.setRow cz; have H4 := Lib.hid h5; clear h3 h4 h5) | (rw [← HZ.out]; refine wpList_store_row rfl 77 _ _ rfl w3.heap.size cz rfl rfl 77 cz hr4 hiz rfl oz ?_))
    go_ret2
    exact ⟨_, rfl, OB.nil _ _ _, H4.out.bel⟩

set_option maxRecDepth 100000 in
set_option maxHeartbeats 1000000 in
theorem PutRel_any (x : RelC) (w : World) :
    Calls Try.prog 18 #[.agg #[.bool x.lv, .int .i64 x.fr, .int .i64 x.to, .int .i64 x.fp, .int .i64 x.tp, .int .i64 x.fn, .int .i64 x.tn, .int .i64 x.ty, .int .i64 x.pr]] w fun e w' => ∃ v, e = .returned (.tuple #[v, .int .i64 (putRelE x)]) ∧ OB w' w.heap.size 5 v (if putRelE x = 0 then (putRelQ x).1.bytes else []) ∧ Below w.heap.size w w' := by
  have H := fun w1 => writeRel_any x w1
  obtain ⟨cx, hcx⟩ : ∃ cx : Array Value, cx = #[.bool x.lv, .int .i64 x.fr, .int .i64 x.to, .int .i64 x.fp, .int .i64 x.tp, .int .i64 x.fn, .int .i64 x.tn, .int .i64 x.ty, .int .i64 x.pr] := ⟨_, rfl⟩
  have sx : cx.size = 9 := by rw [hcx]; rfl
  have hix : (Try.prog.info? 44).map (·.size) = some cx.size := by rw [sx]; kernel_rfl
  rw [← hcx] at H ⊢
  have H := Lib.hid (H (w.alloc (.cells cx 44)))
  obtain ⟨Y, hY⟩ : ∃ Y, Y = (if putRelE x = 0 then (putRelQ x).1.bytes else []) := ⟨_, rfl⟩
  rw [← hY] at H ⊢
  have hbx := heap_alloc_new w (.cells cx 44)
  have HBX := Lib.hid hbx
  clear hY hcx hbx
  go_enter Try.func18, Try.ntmps18
  go_wp2_with (first | (go_at_call 37; refine (H.out).mono ?_; rintro e w2 ⟨v, rfl, ho, hb⟩) | (refine wpList_load_row rfl 44 _ rfl w.heap.size rfl 44 cx (0, 0) _ HBX.out Try.underlying44 rfl hix ?_))
  go_ret2
  exact ⟨v, rfl, ho.mono (base' := w.heap.size) (by simp), ((Below.refl _ _).alloc (Nat.le_refl _) _).trans (hb.mono (by simp))⟩

end Go.Proofs.Ytpoaokkmmoeekaa

/- A rel's record: Read, Get of the program. Written by mkrc.py. -/
namespace Go.Proofs.Ytpoaokkmmoeekaa
open Go.RowKit
set_option linter.unusedVariables false
/-- what GetRel finds -/
def getRelQ (bs : List Nat) : Cs × Bool := relQ (.r bs 0, false) ⟨true, 0, 0, 0, 0, 0, 0, 0, 0⟩
def getRelE (bs : List Nat) : Int := (getRelQ bs).1.endE (getRelQ bs).2
def getRelV (bs : List Nat) : RelC := relV (.r bs 0, false) ⟨true, 0, 0, 0, 0, 0, 0, 0, 0⟩
def RelReadB (y : RelC) (E : Int) (w : World) (e : Ending) (w' : World) : Prop :=
  e = .returned (.tuple #[if E = 0 then .agg #[.bool true, .int .i64 y.fr, .int .i64 y.to, .int .i64 y.fp, .int .i64 y.tp, .int .i64 y.fn, .int .i64 y.tn, .int .i64 y.ty, .int .i64 y.pr] else .agg #[.bool false, .int .i64 0, .int .i64 0, .int .i64 0, .int .i64 0, .int .i64 0, .int .i64 0, .int .i64 0, .int .i64 0], .int .i64 E]) ∧ St Zf [] w w'
def RelRead (bs : List Nat) (w : World) (e : Ending) (w' : World) : Prop := RelReadB (getRelV bs) (getRelE bs) w e w'

set_option maxHeartbeats 4000000 in
theorem readRel_any (A : Option Addr) (cap B : Nat) (bs : List Nat) (w : World) (hr : RB w B A bs) (hB : B ≤ w.heap.size) (hl : bs.length ≤ 140737488355328) :
    Calls Try.prog 41 #[.slice A bs.length cap, .agg #[.bool true, .int .i64 0, .int .i64 0, .int .i64 0, .int .i64 0, .int .i64 0, .int .i64 0, .int .i64 0, .int .i64 0], .func (.func 38) #[] #[]] w (RelRead bs w) := by
  obtain ⟨wo, hwo⟩ : ∃ wo, wo = (w.alloc (.cells #[.bool true, .int .i64 0, .int .i64 0, .int .i64 0, .int .i64 0, .int .i64 0, .int .i64 0, .int .i64 0, .int .i64 0] 77)).alloc (.cells #[.bool false, .int .i64 0, .int .i64 0, .int .i64 0, .int .i64 0, .int .i64 0, .int .i64 0, .int .i64 0, .int .i64 0] 77) := ⟨_, rfl⟩
  have h0 : St Zf [BlkA (w.heap.size + 1) 77 #[.bool false, .int .i64 0, .int .i64 0, .int .i64 0, .int .i64 0, .int .i64 0, .int .i64 0, .int .i64 0, .int .i64 0], BlkA w.heap.size 77 #[.bool true, .int .i64 0, .int .i64 0, .int .i64 0, .int .i64 0, .int .i64 0, .int .i64 0, .int .i64 0, .int .i64 0]] w wo := by
    have := ((St.start Zf w).newBlk 77 #[.bool true, .int .i64 0, .int .i64 0, .int .i64 0, .int .i64 0, .int .i64 0, .int .i64 0, .int .i64 0, .int .i64 0]).newBlk 77 #[.bool false, .int .i64 0, .int .i64 0, .int .i64 0, .int .i64 0, .int .i64 0, .int .i64 0, .int .i64 0, .int .i64 0]
    rw [hwo]
    simpa using this
  have HF : Hid (∀ W, St Zf [BlkA (w.heap.size + 1) 77 #[.bool false, .int .i64 0, .int .i64 0, .int .i64 0, .int .i64 0, .int .i64 0, .int .i64 0, .int .i64 0, .int .i64 0], BlkA w.heap.size 77 #[.bool true, .int .i64 0, .int .i64 0, .int .i64 0, .int .i64 0, .int .i64 0, .int .i64 0, .int .i64 0, .int .i64 0]] w W → (W.cell? ⟨w.heap.size, 0, none⟩ = some (.bool true) ∧ W.cell? ⟨w.heap.size, 1, none⟩ = some (.int .i64 0) ∧ W.cell? ⟨w.heap.size, 2, none⟩ = some (.int .i64 0) ∧ W.cell? ⟨w.heap.size, 3, none⟩ = some (.int .i64 0) ∧ W.cell? ⟨w.heap.size, 4, none⟩ = some (.int .i64 0) ∧ W.cell? ⟨w.heap.size, 5, none⟩ = some (.int .i64 0) ∧ W.cell? ⟨w.heap.size, 6, none⟩ = some (.int .i64 0) ∧ W.cell? ⟨w.heap.size, 7, none⟩ = some (.int .i64 0) ∧ W.cell? ⟨w.heap.size, 8, none⟩ = some (.int .i64 0)) ∧ (W.cell? ⟨w.heap.size + 1, 0, none⟩ = some (.bool false) ∧ W.cell? ⟨w.heap.size + 1, 1, none⟩ = some (.int .i64 0) ∧ W.cell? ⟨w.heap.size + 1, 2, none⟩ = some (.int .i64 0) ∧ W.cell? ⟨w.heap.size + 1, 3, none⟩ = some (.int .i64 0) ∧ W.cell? ⟨w.heap.size + 1, 4, none⟩ = some (.int .i64 0) ∧ W.cell? ⟨w.heap.size + 1, 5, none⟩ = some (.int .i64 0) ∧ W.cell? ⟨w.heap.size + 1, 6, none⟩ = some (.int .i64 0) ∧ W.cell? ⟨w.heap.size + 1, 7, none⟩ = some (.int .i64 0) ∧ W.cell? ⟨w.heap.size + 1, 8, none⟩ = some (.int .i64 0)) ∧ (W.frozen? ⟨w.heap.size + 1, 0, none⟩ = false ∧ W.frozen? ⟨w.heap.size + 1, 1, none⟩ = false ∧ W.frozen? ⟨w.heap.size + 1, 2, none⟩ = false ∧ W.frozen? ⟨w.heap.size + 1, 3, none⟩ = false ∧ W.frozen? ⟨w.heap.size + 1, 4, none⟩ = false ∧ W.frozen? ⟨w.heap.size + 1, 5, none⟩ = false ∧ W.frozen? ⟨w.heap.size + 1, 6, none⟩ = false ∧ W.frozen? ⟨w.heap.size + 1, 7, none⟩ = false ∧ W.frozen? ⟨w.heap.size + 1, 8, none⟩ = false)) := Lib.hid fun W h => ⟨cellsrel h.swap, cellsrel h, frozrel h⟩
  have HN : Hid (∀ W, Below wo.heap.size wo W → Calls Try.prog 53 #[.slice A bs.length cap] W fun e W' => ∃ g, e = .returned (.pointer (some ⟨g, 0, none⟩)) ∧ St Zf [RdA g bs 0, BlkA (w.heap.size + 1) 77 #[.bool false, .int .i64 0, .int .i64 0, .int .i64 0, .int .i64 0, .int .i64 0, .int .i64 0, .int .i64 0, .int .i64 0], BlkA w.heap.size 77 #[.bool true, .int .i64 0, .int .i64 0, .int .i64 0, .int .i64 0, .int .i64 0, .int .i64 0, .int .i64 0, .int .i64 0]] w W') := Lib.hid fun W hb => by
    have h1 := h0.below hb
    have hr1 := h1.rb hr hB
    refine (NewReader_any A cap B bs W hr1 (by have := h1.size; omega) hl).mono ?_
    rintro e W' ⟨g, q, rfl, hR, hb1⟩
    refine ⟨g, rfl, h1.add (F := fun k => k = g ∨ k = q) hb1 ⟨q, ?_, rfl⟩ ?_⟩
    · obtain ⟨A', c', k1, k2, k3, k4, k5, k6, k7, k8, k9⟩ := hR
      exact ⟨A', c', k1, k2, k3, k4, k5, Nat.zero_le _, Nat.zero_le _, k8, k9⟩
    · rintro k (rfl | rfl)
      · exact hR.lt.1
      · exact hR.lt.2.1
  unfold RelRead RelReadB
  obtain ⟨E, hE⟩ : ∃ E, E = getRelE bs := ⟨_, rfl⟩
  obtain ⟨y, hy⟩ : ∃ y, y = getRelV bs := ⟨_, rfl⟩
  have HC : Hid (∀ g w3, St Zf [RdA g bs 0, BlkA (w.heap.size + 1) 77 #[.bool false, .int .i64 0, .int .i64 0, .int .i64 0, .int .i64 0, .int .i64 0, .int .i64 0, .int .i64 0, .int .i64 0], BlkA w.heap.size 77 #[.bool true, .int .i64 0, .int .i64 0, .int .i64 0, .int .i64 0, .int .i64 0, .int .i64 0, .int .i64 0, .int .i64 0]] w w3 → Calls Try.prog 54 #[.pointer (some ⟨w3.heap.size, 0, none⟩), .agg #[.bool true, .int .i64 0, .int .i64 0, .int .i64 0, .int .i64 0, .int .i64 0, .int .i64 0, .int .i64 0, .int .i64 0], .func (.func 38) #[] #[]] (w3.alloc (.cells #[.pointer none, .pointer (some ⟨g, 0, none⟩), .bool false] 100)) fun e W' => e = .returned (.tuple #[if E = 0 then .agg #[.bool true, .int .i64 y.fr, .int .i64 y.to, .int .i64 y.fp, .int .i64 y.tp, .int .i64 y.fn, .int .i64 y.tn, .int .i64 y.ty, .int .i64 y.pr] else .agg #[.bool false, .int .i64 0, .int .i64 0, .int .i64 0, .int .i64 0, .int .i64 0, .int .i64 0, .int .i64 0, .int .i64 0], .int .i64 E]) ∧ St Zf [BlkA (w.heap.size + 1) 77 #[.bool false, .int .i64 0, .int .i64 0, .int .i64 0, .int .i64 0, .int .i64 0, .int .i64 0, .int .i64 0, .int .i64 0], BlkA w.heap.size 77 #[.bool true, .int .i64 0, .int .i64 0, .int .i64 0, .int .i64 0, .int .i64 0, .int .i64 0, .int .i64 0, .int .i64 0]] w W') := Lib.hid fun g w3 h3 => by
    have h4 := co_shutR (h3.newBlk 100 #[.pointer none, .pointer (some ⟨g, 0, none⟩), .bool false])
    subst hE hy
    refine (codeRel_any (q := (.r bs 0, false)) (x := ⟨true, 0, 0, 0, 0, 0, 0, 0, 0⟩) h4 (by simp [Cs.len])).mono ?_
    rintro e W' ⟨rfl, h5⟩
    exact ⟨rfl, h5.drop⟩
  have hb0 : Below wo.heap.size wo wo.drew := ⟨rfl, rfl, rfl, Nat.le_refl _, fun _ _ => rfl⟩
  obtain ⟨⟨c0, c1, c2, c3, c4, c5, c6, c7, c8⟩, ⟨u0, u1, u2, u3, u4, u5, u6, u7, u8⟩, ⟨f0, f1, f2, f3, f4, f5, f6, f7, f8⟩⟩ := HF.out wo h0
  have Hwo := Lib.hid hwo
  rw [← hE, ← hy]
  clear hwo hr h0 hE hy
  by_cases h0 : E = 0
  · subst h0
    simp only at HC ⊢
    go_enter Try.func41, Try.ntmps41
    go_wp2
    rw [← Hwo.out]
    go_region_held3 (fun w' => w'.cell? ⟨w.heap.size, 0, none⟩ = some (.bool true) ∧ w'.cell? ⟨w.heap.size, 1, none⟩ = some (.int .i64 0) ∧ w'.cell? ⟨w.heap.size, 2, none⟩ = some (.int .i64 0) ∧ w'.cell? ⟨w.heap.size, 3, none⟩ = some (.int .i64 0) ∧ w'.cell? ⟨w.heap.size, 4, none⟩ = some (.int .i64 0) ∧ w'.cell? ⟨w.heap.size, 5, none⟩ = some (.int .i64 0) ∧ w'.cell? ⟨w.heap.size, 6, none⟩ = some (.int .i64 0) ∧ w'.cell? ⟨w.heap.size, 7, none⟩ = some (.int .i64 0) ∧ w'.cell? ⟨w.heap.size, 8, none⟩ = some (.int .i64 0)) (go_keep)
      ((first
        | (go_at_call 53; refine (HN.out _ hb0).mono ?_; rintro e w3 ⟨g, rfl, h3⟩; have kN := HF.out _ h3.drop; obtain ⟨⟨_, _, _, _, _, _, _, _, _⟩, ⟨_, _, _, _, _, _, _, _, _⟩, ⟨_, _, _, _, _, _, _, _, _⟩⟩ := kN)
        | (go_at_call 54; refine (HC.out _ _ h3).mono ?_; rintro e w4 ⟨rfl, h4⟩; have kC := HF.out _ h4; obtain ⟨⟨_, _, _, _, _, _, _, _, _⟩, ⟨_, _, _, _, _, _, _, _, _⟩, ⟨_, _, _, _, _, _, _, _, _⟩⟩ := kC)))
    have h5 := (((((((((h4.setBlk 0 (.bool true)).setBlk 1 (.int .i64 y.fr)).setBlk 2 (.int .i64 y.to)).setBlk 3 (.int .i64 y.fp)).setBlk 4 (.int .i64 y.tp)).setBlk 5 (.int .i64 y.fn)).setBlk 6 (.int .i64 y.tn)).setBlk 7 (.int .i64 y.ty)).setBlk 8 (.int .i64 y.pr))
    go_wp2
    try simp only [Exit.inBlock, Exit.then]
    refine bodyPost_ret (results_row_tmp rfl _ _ (w.heap.size + 1) 77 #[.bool true, .int .i64 y.fr, .int .i64 y.to, .int .i64 y.fp, .int .i64 y.tp, .int .i64 y.fn, .int .i64 y.tn, .int .i64 y.ty, .int .i64 y.pr] _ rfl h5.blk Try.underlying77 rfl (by kernel_rfl)) rfl ?_
    exact ⟨rfl, h5.drop.drop⟩
  · simp only [if_neg h0] at HC ⊢
    clear h0
    go_enter Try.func41, Try.ntmps41
    go_wp2
    rw [← Hwo.out]
    go_region_held3 (fun w' => w'.cell? ⟨w.heap.size, 0, none⟩ = some (.bool true) ∧ w'.cell? ⟨w.heap.size, 1, none⟩ = some (.int .i64 0) ∧ w'.cell? ⟨w.heap.size, 2, none⟩ = some (.int .i64 0) ∧ w'.cell? ⟨w.heap.size, 3, none⟩ = some (.int .i64 0) ∧ w'.cell? ⟨w.heap.size, 4, none⟩ = some (.int .i64 0) ∧ w'.cell? ⟨w.heap.size, 5, none⟩ = some (.int .i64 0) ∧ w'.cell? ⟨w.heap.size, 6, none⟩ = some (.int .i64 0) ∧ w'.cell? ⟨w.heap.size, 7, none⟩ = some (.int .i64 0) ∧ w'.cell? ⟨w.heap.size, 8, none⟩ = some (.int .i64 0)) (go_keep)
      ((first
        | (go_at_call 53; refine (HN.out _ hb0).mono ?_; rintro e w3 ⟨g, rfl, h3⟩; have kN := HF.out _ h3.drop; obtain ⟨⟨_, _, _, _, _, _, _, _, _⟩, ⟨_, _, _, _, _, _, _, _, _⟩, ⟨_, _, _, _, _, _, _, _, _⟩⟩ := kN)
        | (go_at_call 54; refine (HC.out _ _ h3).mono ?_; rintro e w4 ⟨rfl, h4⟩; have kC := HF.out _ h4; obtain ⟨⟨_, _, _, _, _, _, _, _, _⟩, ⟨_, _, _, _, _, _, _, _, _⟩, ⟨_, _, _, _, _, _, _, _, _⟩⟩ := kC)))
    have h5 := (((((((((h4.setBlk 0 (.bool false)).setBlk 1 (.int .i64 0)).setBlk 2 (.int .i64 0)).setBlk 3 (.int .i64 0)).setBlk 4 (.int .i64 0)).setBlk 5 (.int .i64 0)).setBlk 6 (.int .i64 0)).setBlk 7 (.int .i64 0)).setBlk 8 (.int .i64 0))
    go_wp2
    try simp only [Exit.inBlock, Exit.then]
    refine bodyPost_ret (results_row_tmp rfl _ _ (w.heap.size + 1) 77 #[.bool false, .int .i64 0, .int .i64 0, .int .i64 0, .int .i64 0, .int .i64 0, .int .i64 0, .int .i64 0, .int .i64 0] _ rfl h5.blk Try.underlying77 rfl (by kernel_rfl)) rfl ?_
    exact ⟨rfl, h5.drop.drop⟩

set_option maxHeartbeats 4000000 in
theorem GetRel_any (A : Option Addr) (cap B : Nat) (bs : List Nat) (w : World) (hr : RB w B A bs) (hB : B ≤ w.heap.size) (hl : bs.length ≤ 140737488355328) :
    Calls Try.prog 20 #[.slice A bs.length cap] w (RelRead bs w) := by
  have h0 : St Zf [BlkA w.heap.size 44 #[.bool false, .int .i64 0, .int .i64 0, .int .i64 0, .int .i64 0, .int .i64 0, .int .i64 0, .int .i64 0, .int .i64 0]] w (w.alloc (.cells #[.bool false, .int .i64 0, .int .i64 0, .int .i64 0, .int .i64 0, .int .i64 0, .int .i64 0, .int .i64 0, .int .i64 0] 44)) := (St.start Zf w).newBlk _ _
  obtain ⟨wo, hwo⟩ : ∃ wo, wo = (w.alloc (.cells #[.bool false, .int .i64 0, .int .i64 0, .int .i64 0, .int .i64 0, .int .i64 0, .int .i64 0, .int .i64 0, .int .i64 0] 44)) := ⟨_, rfl⟩
  rw [← hwo] at h0
  have H := Lib.hid (readRel_any A cap B bs wo (h0.rb hr hB) (by have := h0.size; omega) hl)
  have H0 := Lib.hid h0
  have Hwo := Lib.hid hwo
  unfold RelRead RelReadB at H ⊢
  obtain ⟨E, hE⟩ : ∃ E, E = getRelE bs := ⟨_, rfl⟩
  obtain ⟨y, hy⟩ : ∃ y, y = getRelV bs := ⟨_, rfl⟩
  rw [← hE, ← hy] at H
  rw [← hE, ← hy]
  clear hwo hr h0 hE hy
  by_cases h0 : E = 0
  · subst h0
    simp only at H ⊢
    go_enter Try.func20, Try.ntmps20
    go_wp2_with (go_at_call 41; rw [← Hwo.out]; refine (H.out).mono ?_; rintro e w3 ⟨rfl, h3⟩; have h4 := (H0.out.below h3.bel).newBlk 77 #[.bool true, .int .i64 y.fr, .int .i64 y.to, .int .i64 y.fp, .int .i64 y.tp, .int .i64 y.fn, .int .i64 y.tn, .int .i64 y.ty, .int .i64 y.pr]; obtain ⟨u0, u1, u2, u3, u4, u5, u6, u7, u8⟩ := cellsrel h4.swap; obtain ⟨f0, f1, f2, f3, f4, f5, f6, f7, f8⟩ := frozrel h4.swap; have h5 := Lib.hid (((((((((h4.swap.setBlk 0 (.bool true)).setBlk 1 (.int .i64 y.fr)).setBlk 2 (.int .i64 y.to)).setBlk 3 (.int .i64 y.fp)).setBlk 4 (.int .i64 y.tp)).setBlk 5 (.int .i64 y.fn)).setBlk 6 (.int .i64 y.tn)).setBlk 7 (.int .i64 y.ty)).setBlk 8 (.int .i64 y.pr)); clear h3 h4)
    try simp only [Exit.inBlock, Exit.then]
    refine bodyPost_ret (results_row_tmp rfl _ _ w.heap.size 44 #[.bool true, .int .i64 y.fr, .int .i64 y.to, .int .i64 y.fp, .int .i64 y.tp, .int .i64 y.fn, .int .i64 y.tn, .int .i64 y.ty, .int .i64 y.pr] _ rfl h5.out.blk Try.underlying44 rfl (by kernel_rfl)) rfl ?_
    exact ⟨rfl, h5.out.drop.drop⟩
  · simp only [if_neg h0] at H ⊢
    clear h0
    go_enter Try.func20, Try.ntmps20
    go_wp2_with (go_at_call 41; rw [← Hwo.out]; refine (H.out).mono ?_; rintro e w3 ⟨rfl, h3⟩; have h4 := (H0.out.below h3.bel).newBlk 77 #[.bool false, .int .i64 0, .int .i64 0, .int .i64 0, .int .i64 0, .int .i64 0, .int .i64 0, .int .i64 0, .int .i64 0]; obtain ⟨u0, u1, u2, u3, u4, u5, u6, u7, u8⟩ := cellsrel h4.swap; obtain ⟨f0, f1, f2, f3, f4, f5, f6, f7, f8⟩ := frozrel h4.swap; have h5 := Lib.hid (((((((((h4.swap.setBlk 0 (.bool false)).setBlk 1 (.int .i64 0)).setBlk 2 (.int .i64 0)).setBlk 3 (.int .i64 0)).setBlk 4 (.int .i64 0)).setBlk 5 (.int .i64 0)).setBlk 6 (.int .i64 0)).setBlk 7 (.int .i64 0)).setBlk 8 (.int .i64 0)); clear h3 h4)
    try simp only [Exit.inBlock, Exit.then]
    refine bodyPost_ret (results_row_tmp rfl _ _ w.heap.size 44 #[.bool false, .int .i64 0, .int .i64 0, .int .i64 0, .int .i64 0, .int .i64 0, .int .i64 0, .int .i64 0, .int .i64 0] _ rfl h5.out.blk Try.underlying44 rfl (by kernel_rfl)) rfl ?_
    exact ⟨rfl, h5.out.drop.drop⟩

end Go.Proofs.Ytpoaokkmmoeekaa
