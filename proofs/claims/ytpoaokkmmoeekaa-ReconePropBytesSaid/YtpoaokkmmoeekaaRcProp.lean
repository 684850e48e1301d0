/- A prop's record: code, Write, Read, Put, Get of the program. Written by mkrc.py. -/
import Derived.Test.YtpoaokkmmoeekaaRcPropF
import Derived.Test.YtpoaokkmmoeekaaRcNode2
namespace Go.Proofs.Ytpoaokkmmoeekaa
open Go.RowKit
set_option linter.unusedVariables false

theorem cellsprop {S : Fp} {l : List Ass} {w0 w : World} {g : Nat} {t : TypeId} {a0 a1 a2 a3 a4 a5 : Value} (h : St S (BlkA g t #[a0, a1, a2, a3, a4, a5] :: l) w0 w) : w.cell? ⟨g, 0, none⟩ = some a0 ∧ w.cell? ⟨g, 1, none⟩ = some a1 ∧ w.cell? ⟨g, 2, none⟩ = some a2 ∧ w.cell? ⟨g, 3, none⟩ = some a3 ∧ w.cell? ⟨g, 4, none⟩ = some a4 ∧ w.cell? ⟨g, 5, none⟩ = some a5 := by
  have hb := h.blk
  exact ⟨by rw [hb.cell 0]; rfl, by rw [hb.cell 1]; rfl, by rw [hb.cell 2]; rfl, by rw [hb.cell 3]; rfl, by rw [hb.cell 4]; rfl, by rw [hb.cell 5]; rfl⟩
theorem frozprop {S : Fp} {l : List Ass} {w0 w : World} {g : Nat} {t : TypeId} {cs : Array Value} (h : St S (BlkA g t cs :: l) w0 w) : w.frozen? ⟨g, 0, none⟩ = false ∧ w.frozen? ⟨g, 1, none⟩ = false ∧ w.frozen? ⟨g, 2, none⟩ = false ∧ w.frozen? ⟨g, 3, none⟩ = false ∧ w.frozen? ⟨g, 4, none⟩ = false ∧ w.frozen? ⟨g, 5, none⟩ = false := by
  have hb := h.blk
  exact ⟨hb.frozen 0, hb.frozen 1, hb.frozen 2, hb.frozen 3, hb.frozen 4, hb.frozen 5⟩
section
variable {l : List Ass} {w0 w w' : World} {c : Nat} {q : Cs × Bool}
set_option maxRecDepth 100000 in
set_option maxHeartbeats 4000000 in
theorem codeProp_any [Stable (Sep l)] {x : PropC} (h : St Zf (CoA c q.1 q.2 :: l) w0 w) (hs : q.1.len ≤ 9000) :
    Calls Try.prog 56 #[.pointer (some ⟨c, 0, none⟩), .agg #[.int .i64 x.ky, .int .i64 x.kd, .int .i64 x.nu, .int .i64 x.bl, .int .i64 x.pv, .int .i64 x.nx], .func (.func 44) #[] #[]] w fun e w' => e = .returned (.tuple #[if (propQ q x).1.endE (propQ q x).2 = 0 then .agg #[.int .i64 (propV q x).ky, .int .i64 (propV q x).kd, .int .i64 (propV q x).nu, .int .i64 (propV q x).bl, .int .i64 (propV q x).pv, .int .i64 (propV q x).nx] else .agg #[.int .i64 0, .int .i64 0, .int .i64 0, .int .i64 0, .int .i64 0, .int .i64 0], .int .i64 ((propQ q x).1.endE (propQ q x).2)]) ∧ St Zf (CoA c (propQ q x).1 (propQ q x).2 :: l) w0 w' := by
  have HF := fun (w1 : World) (n : Nat) (l' : List Ass) (hl : Stable (Sep l')) (h1 : St Zf (CoA c q.1 q.2 :: BlkA n 87 #[.int .i64 x.ky, .int .i64 x.kd, .int .i64 x.nu, .int .i64 x.bl, .int .i64 x.pv, .int .i64 x.nx] :: l') w0 w1) => propFields_any h1 hs
  obtain ⟨cx, hcx⟩ : ∃ cx : Array Value, cx = #[.int .i64 x.ky, .int .i64 x.kd, .int .i64 x.nu, .int .i64 x.bl, .int .i64 x.pv, .int .i64 x.nx] := ⟨_, rfl⟩
  obtain ⟨cy, hcy⟩ : ∃ cy : Array Value, cy = #[.int .i64 (propV q x).ky, .int .i64 (propV q x).kd, .int .i64 (propV q x).nu, .int .i64 (propV q x).bl, .int .i64 (propV q x).pv, .int .i64 (propV q x).nx] := ⟨_, rfl⟩
  obtain ⟨cz, hcz⟩ : ∃ cz : Array Value, cz = #[.int .i64 0, .int .i64 0, .int .i64 0, .int .i64 0, .int .i64 0, .int .i64 0] := ⟨_, rfl⟩
  have sx : cx.size = 6 := by rw [hcx]; rfl
  have sy : cy.size = 6 := by rw [hcy]; rfl
  have sz : cz.size = 6 := by rw [hcz]; rfl
  have oy : cy.all (·.oneCell') = true := by rw [hcy, ← Array.all_toList]; rfl
  have oz : cz.all (·.oneCell') = true := by rw [hcz, ← Array.all_toList]; rfl
  have hiy : (Try.prog.info? 87).map (·.size) = some cy.size := by rw [sy]; kernel_rfl
  have hiz : (Try.prog.info? 87).map (·.size) = some cz.size := by rw [sz]; kernel_rfl
  rw [← hcx] at HF ⊢
  rw [← hcy] at HF ⊢
  rw [← hcz]
  have hzz := hcz
  clear hcx hcy
  have h1 : St Zf (CoA c q.1 q.2 :: BlkA w.heap.size 87 cx :: BlkA (w.heap.size + 1) 87 cz :: l) w0 ((w.alloc (.cells cx 87)).alloc (.cells cz 87)) := by
    have a := ((h.newBlk 87 cx).swap.newBlk 87 cz).back2
    simpa using a
  obtain ⟨w1, hw1⟩ : ∃ w1, w1 = ((w.alloc (.cells cx 87)).alloc (.cells cz 87)) := ⟨_, rfl⟩
  rw [← hw1] at h1
  have HF := Lib.hid (HF w1 w.heap.size _ inferInstance h1)
  obtain ⟨E, hE⟩ : ∃ E, E = (propQ q x).1.endE (propQ q x).2 := ⟨_, rfl⟩
  have HW1 := Lib.hid hw1
  rw [← hE]
  have HEA := fun (w2 : World) (h2 : St Zf (CoA c (propQ q x).1 (propQ q x).2 :: BlkA w.heap.size 87 cy :: BlkA (w.heap.size + 1) 87 cz :: l) w0 w2) => end_any h2
  rw [← hE] at HEA
  have HEA := Lib.hid HEA
  have HZ := Lib.hid hcz
  clear h h1 hE hw1 hcz hzz
  by_cases h0 : E = 0
  · subst h0
    go_enter Try.func56, Try.ntmps56
    go_wp2_with (first | (go_at_call 44; rw [← HZ.out, ← HW1.out]; refine (HF.out).mono ?_; rintro e w2 ⟨rfl, h2⟩) | (go_at_call 63; refine (HEA.out _ h2).mono ?_; rintro e w3 ⟨rfl, h3⟩; have hb3 := h3.swap.blk; have hr3 := h3.bring2.blk; have h4 := Lib.hid (h3.bring2.setRow cy)) | (refine wpList_load_row rfl 87 _ rfl w.heap.size rfl 87 cy (0, 0) _ hb3 Try.underlying87 rfl hiy ?_) | (refine wpList_store_row rfl 87 _ _ rfl (w.heap.size + 1) cy rfl rfl 87 cz hr3 hiy (by rw [sz, sy]) oy ?_))
    refine bodyPost_ret (results_row_tmp rfl _ _ (w.heap.size + 1) 87 cy _ rfl h4.out.blk Try.underlying87 rfl hiy) rfl ?_
    exact ⟨rfl, h4.out.drop.swap.drop⟩
  · have hb : (E != 0) = true := by simpa using h0
    simp only [if_neg h0]
    clear h0
    go_enter Try.func56, Try.ntmps56
    go_wp2_with (first | (go_at_call 44; rw [← HZ.out, ← HW1.out]; refine (HF.out).mono ?_; rintro e w2 ⟨rfl, h2⟩) | (go_at_call 63; refine (HEA.out _ h2).mono ?_; rintro e w3 ⟨rfl, h3⟩; have h3 := h3.newBlk 87 cz; have hb3 := h3.blk; have hr3 := h3.bring3.blk; have h4 := Lib.hid (h3.bring3.setRow cz)) | (rw [← HZ.out]; refine wpList_load_row rfl 87 _ rfl w3.heap.size rfl 87 cz (0, 0) _ hb3 Try.underlying87 rfl hiz ?_) | (refine wpList_store_row rfl 87 _ _ rfl (w.heap.size + 1) cz rfl rfl 87 cz hr3 hiz rfl oz ?_))
    refine bodyPost_ret (results_row_tmp rfl _ _ (w.heap.size + 1) 87 cz _ rfl h4.out.blk Try.underlying87 rfl hiz) rfl ?_
    exact ⟨rfl, h4.out.drop.drop.swap.drop⟩
end

/-- what PutProp finds -/
def putPropQ (x : PropC) : Cs × Bool := propQ (.w [], false) x
def putPropE (x : PropC) : Int := (putPropQ x).1.endE (putPropQ x).2

set_option maxRecDepth 100000 in
set_option maxHeartbeats 4000000 in
theorem writeProp_any (x : PropC) (w : World) :
    Calls Try.prog 43 #[.agg #[.int .i64 x.ky, .int .i64 x.kd, .int .i64 x.nu, .int .i64 x.bl, .int .i64 x.pv, .int .i64 x.nx], .func (.func 44) #[] #[]] w fun e w' => ∃ v, e = .returned (.tuple #[v, .int .i64 (putPropE x)]) ∧ OB w' w.heap.size 5 v (if putPropE x = 0 then (putPropQ x).1.bytes else []) ∧ Below w.heap.size w w' := by
  have HC := fun (w1 : World) (c : Nat) (l' : List Ass) (hl : Stable (Sep l')) (h1 : St Zf (CoA c (.w []) false :: l') w w1) => codeProp_any (q := (.w [], false)) (x := x) h1 (by simp [Cs.len])
  obtain ⟨cx, hcx⟩ : ∃ cx : Array Value, cx = #[.int .i64 x.ky, .int .i64 x.kd, .int .i64 x.nu, .int .i64 x.bl, .int .i64 x.pv, .int .i64 x.nx] := ⟨_, rfl⟩
  obtain ⟨cy, hcy⟩ : ∃ cy : Array Value, cy = #[.int .i64 (propV (.w [], false) x).ky, .int .i64 (propV (.w [], false) x).kd, .int .i64 (propV (.w [], false) x).nu, .int .i64 (propV (.w [], false) x).bl, .int .i64 (propV (.w [], false) x).pv, .int .i64 (propV (.w [], false) x).nx] := ⟨_, rfl⟩
  obtain ⟨cz, hcz⟩ : ∃ cz : Array Value, cz = #[.int .i64 0, .int .i64 0, .int .i64 0, .int .i64 0, .int .i64 0, .int .i64 0] := ⟨_, rfl⟩
  have sx : cx.size = 6 := by rw [hcx]; rfl
  have sy : cy.size = 6 := by rw [hcy]; rfl
  have sz : cz.size = 6 := by rw [hcz]; rfl
  have oy : cy.all (·.oneCell') = true := by rw [hcy, ← Array.all_toList]; rfl
  have oz : cz.all (·.oneCell') = true := by rw [hcz, ← Array.all_toList]; rfl
  have hix : (Try.prog.info? 87).map (·.size) = some cx.size := by rw [sx]; kernel_rfl
  have hiy : (Try.prog.info? 87).map (·.size) = some cy.size := by rw [sy]; kernel_rfl
  have hiz : (Try.prog.info? 87).map (·.size) = some cz.size := by rw [sz]; kernel_rfl
  have hE : (propQ (.w [], false) x).1.endE (propQ (.w [], false) x).2 = putPropE x := rfl
  have hQ : propQ (.w [], false) x = putPropQ x := rfl
  rw [hE, hQ, ← hcx, ← hcy, ← hcz] at HC
  rw [← hcx]
  have HZ := Lib.hid hcz
  clear hcx hcy hcz
  have h0 := (St.start Zf w).newBlk 87 cx
  have hbx0 := h0.blk
  have h1 := h0.newCoW
  have e0 : (w.alloc (.cells cx 87)).heap.size = w.heap.size + 1 := by simp
  rw [e0] at h1
  obtain ⟨w1, hw1⟩ : ∃ w1, w1 = (((w.alloc (.cells cx 87)).alloc (.cells #[.slice none 0 0] 119)).alloc (.cells #[.pointer (some ⟨w.heap.size + 1, 0, none⟩), .pointer none, .bool false] 100)) := ⟨_, rfl⟩
  rw [← hw1] at h1
  have hbx := h1.swap.blk
  have HC := Lib.hid (HC w1 _ _ inferInstance h1)
  have HNW := Lib.hid (NewWriter_any (w.alloc (.cells cx 87)))
  have hi : (putPropQ x).1.isw = true := by rw [← hQ, propQ_isw]; rfl
  have hl : (putPropQ x).1.len ≤ 1000000 := by have hl0 : (((.w [], false) : Cs × Bool)).1.len = 0 := rfl; have := propQ_len (.w [], false) x; rw [hQ, hl0] at this; omega
  obtain ⟨E, hE'⟩ : ∃ E, E = putPropE x := ⟨_, rfl⟩
  obtain ⟨q, hq⟩ : ∃ q, q = putPropQ x := ⟨_, rfl⟩
  rw [← hE', ← hq] at HC
  rw [← hE', ← hq]
  rw [← hq] at hi hl
  have HW1 := Lib.hid hw1
  have HI := Lib.hid hi
  have HL := Lib.hid hl
  have HBX := Lib.hid hbx
  clear h0 h1 hw1 hE hQ hE' hq e0 hi hl hbx0 hbx
  by_cases h0 : E = 0
  · subst h0
    simp only at HC ⊢
    go_enter Try.func43, Try.ntmps43
    go_wp2_with (first | (go_at_call 48; refine (HNW.out).mono ?_; rintro e w2 ⟨rfl, rfl⟩) | (rw [← HW1.out]; refine wpList_load_row rfl 87 _ rfl w.heap.size rfl 87 cx (0, 0) _ HBX.out Try.underlying87 rfl hix ?_) | (go_at_call 56; refine (HC.out).mono ?_; rintro e w3 ⟨rfl, h3⟩; have h4 := h3.newBlk 87 cz; have hr4 := h4.blk; have h5 := h4.setRow cy; obtain ⟨g2, k0, HB⟩ := bytes_co h5.swap HI.out (Nat.le_trans HL.out (by decide)); have HB := Lib.hid HB; have H4 := Lib.hid h5; clear h3 h4 h5) | (rw [← HZ.out]; refine wpList_store_row rfl 87 _ _ rfl w3.heap.size cy rfl rfl 87 cz hr4 hiy (by rw [sz, sy]) oy ?_) | (go_at_call 50; refine (HB.out).mono ?_; rintro e w5 ⟨v5, rfl, ho5, hb5⟩))
    go_ret2
    have hb4 := H4.out.bel
    exact ⟨v5, rfl, ho5.mono hb4.size, hb4.trans (hb5.mono hb4.size)⟩
  · have hb : (E != 0) = true := by simpa using h0
    simp only [if_neg h0] at HC ⊢
    clear h0
    go_enter Try.func43, Try.ntmps43
    go_wp2_with (first | (go_at_call 48; refine (HNW.out).mono ?_; rintro e w2 ⟨rfl, rfl⟩) | (rw [← HW1.out]; refine wpList_load_row rfl 87 _ rfl w.heap.size rfl 87 cx (0, 0) _ HBX.out Try.underlying87 rfl hix ?_) | (go_at_call 56; refine (HC.out).mono ?_; rintro e w3 ⟨rfl, h3⟩; have h4 := h3.newBlk 87 cz; have hr4 := h4.blk; have h5 := h4.setRow cz; have H4 := Lib.hid h5; clear h3 h4 h5) | (rw [← HZ.out]; refine wpList_store_row rfl 87 _ _ rfl w3.heap.size cz rfl rfl 87 cz hr4 hiz rfl oz ?_))
    go_ret2
    exact ⟨_, rfl, OB.nil _ _ _, H4.out.bel⟩

set_option maxRecDepth 100000 in
set_option maxHeartbeats 1000000 in
theorem PutProp_any (x : PropC) (w : World) :
    Calls Try.prog 22 #[.agg #[.int .i64 x.ky, .int .i64 x.kd, .int .i64 x.nu, .int .i64 x.bl, .int .i64 x.pv, .int .i64 x.nx]] w fun e w' => ∃ v, e = .returned (.tuple #[v, .int .i64 (putPropE x)]) ∧ OB w' w.heap.size 5 v (if putPropE x = 0 then (putPropQ x).1.bytes else []) ∧ Below w.heap.size w w' := by
  have H := fun w1 => writeProp_any x w1
  obtain ⟨cx, hcx⟩ : ∃ cx : Array Value, cx = #[.int .i64 x.ky, .int .i64 x.kd, .int .i64 x.nu, .int .i64 x.bl, .int .i64 x.pv, .int .i64 x.nx] := ⟨_, rfl⟩
  have sx : cx.size = 6 := by rw [hcx]; rfl
  have hix : (Try.prog.info? 53).map (·.size) = some cx.size := by rw [sx]; kernel_rfl
  rw [← hcx] at H ⊢
  have H := Lib.hid (H (w.alloc (.cells cx 53)))
  obtain ⟨Y, hY⟩ : ∃ Y, Y = (if putPropE x = 0 then (putPropQ x).1.bytes else []) := ⟨_, rfl⟩
  rw [← hY] at H ⊢
  have hbx := heap_alloc_new w (.cells cx 53)
  have HBX := Lib.hid hbx
  clear hY hcx hbx
  go_enter Try.func22, Try.ntmps22
  go_wp2_with (first | (go_at_call 43; refine (H.out).mono ?_; rintro e w2 ⟨v, rfl, ho, hb⟩) | (refine wpList_load_row rfl 53 _ rfl w.heap.size rfl 53 cx (0, 0) _ HBX.out Try.underlying53 rfl hix ?_))
  go_ret2
  exact ⟨v, rfl, ho.mono (base' := w.heap.size) (by simp), ((Below.refl _ _).alloc (Nat.le_refl _) _).trans (hb.mono (by simp))⟩

end Go.Proofs.Ytpoaokkmmoeekaa
