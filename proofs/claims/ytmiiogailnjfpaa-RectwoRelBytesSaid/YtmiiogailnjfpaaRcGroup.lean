/- A group's record: code, Write, Read, Put, Get of the program. Written by mkrc.py. -/
import Derived.Test.YtmiiogailnjfpaaRcGroupF
import Derived.Test.YtmiiogailnjfpaaRcNode2
namespace Go.Proofs.Ytmiiogailnjfpaa
open Go.RowKit
set_option linter.unusedVariables false

theorem cellsgroup {S : Fp} {l : List Ass} {w0 w : World} {g : Nat} {t : TypeId} {a0 a1 a2 a3 a4 a5 a6 : Value} (h : St S (BlkA g t #[a0, a1, a2, a3, a4, a5, a6] :: l) w0 w) : w.cell? ⟨g, 0, none⟩ = some a0 ∧ w.cell? ⟨g, 1, none⟩ = some a1 ∧ w.cell? ⟨g, 2, none⟩ = some a2 ∧ w.cell? ⟨g, 3, none⟩ = some a3 ∧ w.cell? ⟨g, 4, none⟩ = some a4 ∧ w.cell? ⟨g, 5, none⟩ = some a5 ∧ w.cell? ⟨g, 6, none⟩ = some a6 := by
  have hb := h.blk
  exact ⟨by rw [hb.cell 0]; rfl, by rw [hb.cell 1]; rfl, by rw [hb.cell 2]; rfl, by rw [hb.cell 3]; rfl, by rw [hb.cell 4]; rfl, by rw [hb.cell 5]; rfl, by rw [hb.cell 6]; rfl⟩
theorem frozgroup {S : Fp} {l : List Ass} {w0 w : World} {g : Nat} {t : TypeId} {cs : Array Value} (h : St S (BlkA g t cs :: l) w0 w) : w.frozen? ⟨g, 0, none⟩ = false ∧ w.frozen? ⟨g, 1, none⟩ = false ∧ w.frozen? ⟨g, 2, none⟩ = false ∧ w.frozen? ⟨g, 3, none⟩ = false ∧ w.frozen? ⟨g, 4, none⟩ = false ∧ w.frozen? ⟨g, 5, none⟩ = false ∧ w.frozen? ⟨g, 6, none⟩ = false := by
  have hb := h.blk
  exact ⟨hb.frozen 0, hb.frozen 1, hb.frozen 2, hb.frozen 3, hb.frozen 4, hb.frozen 5, hb.frozen 6⟩
section
variable {l : List Ass} {w0 w w' : World} {c : Nat} {q : Cs × Bool}
set_option maxRecDepth 100000 in
set_option maxHeartbeats 4000000 in
theorem codeGroup_any [Stable (Sep l)] {x : GroupC} (h : St Zf (CoA c q.1 q.2 :: l) w0 w) (hs : q.1.len ≤ 9000) :
    Calls Try.prog 65 #[.pointer (some ⟨c, 0, none⟩), .agg #[.bool x.lv, .int .i64 x.ty, .int .i64 x.ow, .int .i64 x.ou, .int .i64 x.ni, .int .i64 x.lp, .int .i64 x.nx], .func (.func 49) #[] #[]] w fun e w' => e = .returned (.tuple #[if (groupQ q x).1.endE (groupQ q x).2 = 0 then .agg #[.bool x.lv, .int .i64 (groupV q x).ty, .int .i64 (groupV q x).ow, .int .i64 (groupV q x).ou, .int .i64 (groupV q x).ni, .int .i64 (groupV q x).lp, .int .i64 (groupV q x).nx] else .agg #[.bool false, .int .i64 0, .int .i64 0, .int .i64 0, .int .i64 0, .int .i64 0, .int .i64 0], .int .i64 ((groupQ q x).1.endE (groupQ q x).2)]) ∧ St Zf (CoA c (groupQ q x).1 (groupQ q x).2 :: l) w0 w' := by
  have HF := fun (w1 : World) (n : Nat) (l' : List Ass) (hl : Stable (Sep l')) (h1 : St Zf (CoA c q.1 q.2 :: BlkA n 91 #[.bool x.lv, .int .i64 x.ty, .int .i64 x.ow, .int .i64 x.ou, .int .i64 x.ni, .int .i64 x.lp, .int .i64 x.nx] :: l') w0 w1) => groupFields_any h1 hs
  obtain ⟨cx, hcx⟩ : ∃ cx : Array Value, cx = #[.bool x.lv, .int .i64 x.ty, .int .i64 x.ow, .int .i64 x.ou, .int .i64 x.ni, .int .i64 x.lp, .int .i64 x.nx] := ⟨_, rfl⟩
  obtain ⟨cy, hcy⟩ : ∃ cy : Array Value, cy = #[.bool x.lv, .int .i64 (groupV q x).ty, .int .i64 (groupV q x).ow, .int .i64 (groupV q x).ou, .int .i64 (groupV q x).ni, .int .i64 (groupV q x).lp, .int .i64 (groupV q x).nx] := ⟨_, rfl⟩
  obtain ⟨cz, hcz⟩ : ∃ cz : Array Value, cz = #[.bool false, .int .i64 0, .int .i64 0, .int .i64 0, .int .i64 0, .int .i64 0, .int .i64 0] := ⟨_, rfl⟩
  have sx : cx.size = 7 := by rw [hcx]; rfl
  have sy : cy.size = 7 := by rw [hcy]; rfl
  have sz : cz.size = 7 := by rw [hcz]; rfl
  have oy : cy.all (·.oneCell') = true := by rw [hcy, ← Array.all_toList]; rfl
  have oz : cz.all (·.oneCell') = true := by rw [hcz, ← Array.all_toList]; rfl
  have hiy : (Try.prog.info? 91).map (·.size) = some cy.size := by rw [sy]; kernel_rfl
  have hiz : (Try.prog.info? 91).map (·.size) = some cz.size := by rw [sz]; kernel_rfl
  rw [← hcx] at HF ⊢
  rw [← hcy] at HF ⊢
  rw [← hcz]
  have hzz := hcz
  clear hcx hcy
  have h1 : St Zf (CoA c q.1 q.2 :: BlkA w.heap.size 91 cx :: BlkA (w.heap.size + 1) 91 cz :: l) w0 ((w.alloc (.cells cx 91)).alloc (.cells cz 91)) := by
    have a := ((h.newBlk 91 cx).swap.newBlk 91 cz).back2
    simpa using a
  obtain ⟨w1, hw1⟩ : ∃ w1, w1 = ((w.alloc (.cells cx 91)).alloc (.cells cz 91)) := ⟨_, rfl⟩
  rw [← hw1] at h1
  have HF := Lib.hid (HF w1 w.heap.size _ inferInstance h1)
  obtain ⟨E, hE⟩ : ∃ E, E = (groupQ q x).1.endE (groupQ q x).2 := ⟨_, rfl⟩
  have HW1 := Lib.hid hw1
  rw [← hE]
  have HEA := fun (w2 : World) (h2 : St Zf (CoA c (groupQ q x).1 (groupQ q x).2 :: BlkA w.heap.size 91 cy :: BlkA (w.heap.size + 1) 91 cz :: l) w0 w2) => end_any h2
  rw [← hE] at HEA
  have HEA := Lib.hid HEA
  have HZ := Lib.hid hcz
  clear h h1 hE hw1 hcz hzz
  by_cases h0 : E = 0
  · subst h0
    go_enter Try.func65, Try.ntmps65
    go_wp2_with (first | (go_at_call 49; rw [← HZ.out, ← HW1.out]; refine (HF.out).mono ?_; rintro e w2 ⟨rfl, h2⟩) | (go_at_call 69; refine (HEA.out _ h2).mono ?_; rintro e w3 ⟨rfl, h3⟩; have hb3 := h3.swap.blk; have hr3 := h3.bring2.blk; have h4 := Lib.hid (h3.bring2.setRow cy)) | (refine wpList_load_row rfl 91 _ rfl w.heap.size rfl 91 cy (0, 0) _ hb3 Try.underlying91 rfl hiy ?_) | (refine wpList_store_row rfl 91 _ _ rfl (w.heap.size + 1) cy rfl rfl 91 cz hr3 hiy (by rw [sz, sy]) oy ?_))
    refine bodyPost_ret (results_row_tmp rfl _ _ (w.heap.size + 1) 91 cy _ rfl h4.out.blk Try.underlying91 rfl hiy) rfl ?_
    exact ⟨rfl, h4.out.drop.swap.drop⟩
  · have hb : (E != 0) = true := by simpa using h0
    simp only [if_neg h0]
    clear h0
    go_enter Try.func65, Try.ntmps65
    go_wp2_with (first | (go_at_call 49; rw [← HZ.out, ← HW1.out]; refine (HF.out).mono ?_; rintro e w2 ⟨rfl, h2⟩) | (go_at_call 69; refine (HEA.out _ h2).mono ?_; rintro e w3 ⟨rfl, h3⟩; have h3 := h3.newBlk 91 cz; have hb3 := h3.blk; have hr3 := h3.bring3.blk; have h4 := Lib.hid (h3.bring3.setRow cz)) | (rw [← HZ.out]; refine wpList_load_row rfl 91 _ rfl w3.heap.size rfl 91 cz (0, 0) _ hb3 Try.underlying91 rfl hiz ?_) | (refine wpList_store_row rfl 91 _ _ rfl (w.heap.size + 1) cz rfl rfl 91 cz hr3 hiz rfl oz ?_))
    refine bodyPost_ret (results_row_tmp rfl _ _ (w.heap.size + 1) 91 cz _ rfl h4.out.blk Try.underlying91 rfl hiz) rfl ?_
    exact ⟨rfl, h4.out.drop.drop.swap.drop⟩
end

/-- what PutGroup finds -/
def putGroupQ (x : GroupC) : Cs × Bool := groupQ (.w [], false) x
def putGroupE (x : GroupC) : Int := (putGroupQ x).1.endE (putGroupQ x).2

set_option maxRecDepth 100000 in
set_option maxHeartbeats 4000000 in
theorem writeGroup_any (x : GroupC) (w : World) :
    Calls Try.prog 48 #[.agg #[.bool x.lv, .int .i64 x.ty, .int .i64 x.ow, .int .i64 x.ou, .int .i64 x.ni, .int .i64 x.lp, .int .i64 x.nx], .func (.func 49) #[] #[]] w fun e w' => ∃ v, e = .returned (.tuple #[v, .int .i64 (putGroupE x)]) ∧ OB w' w.heap.size 5 v (if putGroupE x = 0 then (putGroupQ x).1.bytes else []) ∧ Below w.heap.size w w' := by
  have HC := fun (w1 : World) (c : Nat) (l' : List Ass) (hl : Stable (Sep l')) (h1 : St Zf (CoA c (.w []) false :: l') w w1) => codeGroup_any (q := (.w [], false)) (x := x) h1 (by simp [Cs.len])
  obtain ⟨cx, hcx⟩ : ∃ cx : Array Value, cx = #[.bool x.lv, .int .i64 x.ty, .int .i64 x.ow, .int .i64 x.ou, .int .i64 x.ni, .int .i64 x.lp, .int .i64 x.nx] := ⟨_, rfl⟩
  obtain ⟨cy, hcy⟩ : ∃ cy : Array Value, cy = #[.bool x.lv, .int .i64 (groupV (.w [], false) x).ty, .int .i64 (groupV (.w [], false) x).ow, .int .i64 (groupV (.w [], false) x).ou, .int .i64 (groupV (.w [], false) x).ni, .int .i64 (groupV (.w [], false) x).lp, .int .i64 (groupV (.w [], false) x).nx] := ⟨_, rfl⟩
  obtain ⟨cz, hcz⟩ : ∃ cz : Array Value, cz = #[.bool false, .int .i64 0, .int .i64 0, .int .i64 0, .int .i64 0, .int .i64 0, .int .i64 0] := ⟨_, rfl⟩
  have sx : cx.size = 7 := by rw [hcx]; rfl
  have sy : cy.size = 7 := by rw [hcy]; rfl
  have sz : cz.size = 7 := by rw [hcz]; rfl
  have oy : cy.all (·.oneCell') = true := by rw [hcy, ← Array.all_toList]; rfl
  have oz : cz.all (·.oneCell') = true := by rw [hcz, ← Array.all_toList]; rfl
  have hix : (Try.prog.info? 91).map (·.size) = some cx.size := by rw [sx]; kernel_rfl
  have hiy : (Try.prog.info? 91).map (·.size) = some cy.size := by rw [sy]; kernel_rfl
  have hiz : (Try.prog.info? 91).map (·.size) = some cz.size := by rw [sz]; kernel_rfl
  have hE : (groupQ (.w [], false) x).1.endE (groupQ (.w [], false) x).2 = putGroupE x := rfl
  have hQ : groupQ (.w [], false) x = putGroupQ x := rfl
  rw [hE, hQ, ← hcx, ← hcy, ← hcz] at HC
  rw [← hcx]
  have HZ := Lib.hid hcz
  clear hcx hcy hcz
  have h0 := (St.start Zf w).newBlk 91 cx
  have hbx0 := h0.blk
  have h1 := h0.newCoW
  have e0 : (w.alloc (.cells cx 91)).heap.size = w.heap.size + 1 := by simp
  rw [e0] at h1
  obtain ⟨w1, hw1⟩ : ∃ w1, w1 = (((w.alloc (.cells cx 91)).alloc (.cells #[.slice none 0 0] 124)).alloc (.cells #[.pointer (some ⟨w.heap.size + 1, 0, none⟩), .pointer none, .bool false] 103)) := ⟨_, rfl⟩
  rw [← hw1] at h1
  have hbx := h1.swap.blk
  have HC := Lib.hid (HC w1 _ _ inferInstance h1)
  have HNW := Lib.hid (NewWriter_any (w.alloc (.cells cx 91)))
  have hi : (putGroupQ x).1.isw = true := by rw [← hQ, groupQ_isw]; rfl
  have hl : (putGroupQ x).1.len ≤ 1000000 := by have hl0 : (((.w [], false) : Cs × Bool)).1.len = 0 := rfl; have := groupQ_len (.w [], false) x; rw [hQ, hl0] at this; omega
  obtain ⟨E, hE'⟩ : ∃ E, E = putGroupE x := ⟨_, rfl⟩
  obtain ⟨q, hq⟩ : ∃ q, q = putGroupQ x := ⟨_, rfl⟩
  rw [← hE', ← hq] at HC
  rw [← hE', ← hq]
  rw [← hq] at hi hl
  have HW1 := Lib.hid hw1
  have HI := Lib.hid hi
  have HL := Lib.hid hl
  have HBX := Lib.hid hbx
  clear h0 h1 hw1 hE hQ hE' hq e0 hi hl hbx0 hbx
  by_cases h0 : E = 0
  · subst h0
    simp only at HC ⊢
    go_enter Try.func48, Try.ntmps48
    go_wp2_with (first | (go_at_call 52; refine (HNW.out).mono ?_; rintro e w2 ⟨rfl, rfl⟩) | (rw [← HW1.out]; refine wpList_load_row rfl 91 _ rfl w.heap.size rfl 91 cx (0, 0) _ HBX.out Try.underlying91 rfl hix ?_) | (go_at_call 65; refine (HC.out).mono ?_; rintro e w3 ⟨rfl, h3⟩; have h4 := h3.newBlk 91 cz; have hr4 := h4.blk; have h5 := h4.setRow cy; obtain ⟨g2, k0, HB⟩ := bytes_co h5.swap HI.out (Nat.le_trans HL.out (by decide)); have HB := Lib.hid HB; have H4 := Lib.hid h5; clear h3 h4 h5) | (rw [← HZ.out]; refine wpList_store_row rfl 91 _ _ rfl w3.heap.size cy rfl rfl 91 cz hr4 hiy (by rw [sz, sy]) oy ?_) | (go_at_call 54; refine (HB.out).mono ?_; rintro e w5 ⟨v5, rfl, ho5, hb5⟩))
    go_ret2
    have hb4 := H4.out.bel
    exact ⟨v5, rfl, ho5.mono hb4.size, hb4.trans (hb5.mono hb4.size)⟩
  · have hb : (E != 0) = true := by simpa using h0
    simp only [if_neg h0] at HC ⊢
    clear h0
    go_enter Try.func48, Try.ntmps48
    go_wp2_with (first | (go_at_call 52; refine (HNW.out).mono ?_; rintro e w2 ⟨rfl, rfl⟩) | (rw [← HW1.out]; refine wpList_load_row rfl 91 _ rfl w.heap.size rfl 91 cx (0, 0) _ HBX.out Try.underlying91 rfl hix ?_) | (go_at_call 65; refine (HC.out).mono ?_; rintro e w3 ⟨rfl, h3⟩; have h4 := h3.newBlk 91 cz; have hr4 := h4.blk; have h5 := h4.setRow cz; have H4 := Lib.hid h5; clear h3 h4 h5) | (rw [← HZ.out]; refine wpList_store_row rfl 91 _ _ rfl w3.heap.size cz rfl rfl 91 cz hr4 hiz rfl oz ?_))
    go_ret2
    exact ⟨_, rfl, OB.nil _ _ _, H4.out.bel⟩

set_option maxRecDepth 100000 in
set_option maxHeartbeats 1000000 in
theorem PutGroup_any (x : GroupC) (w : World) :
    Calls Try.prog 26 #[.agg #[.bool x.lv, .int .i64 x.ty, .int .i64 x.ow, .int .i64 x.ou, .int .i64 x.ni, .int .i64 x.lp, .int .i64 x.nx]] w fun e w' => ∃ v, e = .returned (.tuple #[v, .int .i64 (putGroupE x)]) ∧ OB w' w.heap.size 5 v (if putGroupE x = 0 then (putGroupQ x).1.bytes else []) ∧ Below w.heap.size w w' := by
  have H := fun w1 => writeGroup_any x w1
  obtain ⟨cx, hcx⟩ : ∃ cx : Array Value, cx = #[.bool x.lv, .int .i64 x.ty, .int .i64 x.ow, .int .i64 x.ou, .int .i64 x.ni, .int .i64 x.lp, .int .i64 x.nx] := ⟨_, rfl⟩
  have sx : cx.size = 7 := by rw [hcx]; rfl
  have hix : (Try.prog.info? 56).map (·.size) = some cx.size := by rw [sx]; kernel_rfl
  rw [← hcx] at H ⊢
  have H := Lib.hid (H (w.alloc (.cells cx 56)))
  obtain ⟨Y, hY⟩ : ∃ Y, Y = (if putGroupE x = 0 then (putGroupQ x).1.bytes else []) := ⟨_, rfl⟩
  rw [← hY] at H ⊢
  have hbx := heap_alloc_new w (.cells cx 56)
  have HBX := Lib.hid hbx
  clear hY hcx hbx
  go_enter Try.func26, Try.ntmps26
  go_wp2_with (first | (go_at_call 48; refine (H.out).mono ?_; rintro e w2 ⟨v, rfl, ho, hb⟩) | (refine wpList_load_row rfl 56 _ rfl w.heap.size rfl 56 cx (0, 0) _ HBX.out Try.underlying56 rfl hix ?_))
  go_ret2
  exact ⟨v, rfl, ho.mono (base' := w.heap.size) (by simp), ((Below.refl _ _).alloc (Nat.le_refl _) _).trans (hb.mono (by simp))⟩

end Go.Proofs.Ytmiiogailnjfpaa
