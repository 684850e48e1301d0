/- A node's record of rectwo: fields, code, Write, Put. Written by mkrd2.py. -/
import Derived.Test.YtmiiogailnjfpaaRdSlots
import Derived.Deep.Cut
namespace Go.Proofs.Ytmiiogailnjfpaa
open Go.RowKit
set_option linter.unusedVariables false

structure NodC where
  d : Bool
  f : Int
  o : Int
def nodLim (b : Bool) : Int := if b = true then 65536 else 2048
def nodQ1 (q : Cs × Bool) (x : NodC) : Cs × Bool := flQ q x.d
def nodQ2 (q : Cs × Bool) (x : NodC) : Cs × Bool := fld (nodQ1 q x) 4 (-1) (nodLim (flV q x.d)) x.f
def nodQ3 (q : Cs × Bool) (x : NodC) : Cs × Bool := fld (nodQ2 q x) 4 (-1) 65536 x.o
def nodV (q : Cs × Bool) (x : NodC) : NodC := ⟨flV q x.d, fval (nodQ1 q x) 4 (-1) x.f, fval (nodQ2 q x) 4 (-1) x.o⟩
def nodQ4 (q : Cs × Bool) (x : NodC) (L : List Int) : Cs × Bool := (labS (nodQ3 q x).1 (pl8 L) 8, labWr (nodQ3 q x).1 (nodQ3 q x).2 L)
def nodPl (q : Cs × Bool) (x : NodC) (L : List Int) : List Int := labL (nodQ3 q x).1 (pl8 L) 8
def nodTQ (q : Cs × Bool) (x : NodC) (L : List Int) (L2 : List Nat) : Cs × Bool := (slS (nodQ4 q x L).1 L2 48, slW (nodQ4 q x L).1 (nodQ4 q x L).2 L2 48)
theorem nodQ3_len (q : Cs × Bool) (x : NodC) : (nodQ3 q x).1.len ≤ q.1.len + 24 := by
  have h1 := fld_len q 1 0 2 (b01 x.d)
  have h2 := fld_len (nodQ1 q x) 4 (-1) (nodLim (flV q x.d)) x.f
  have h3 := fld_len (nodQ2 q x) 4 (-1) 65536 x.o
  unfold nodQ3
  unfold nodQ2 at h3 ⊢
  unfold nodQ1 flQ at h2 h3 ⊢
  omega
theorem nodQ2_len (q : Cs × Bool) (x : NodC) : (nodQ2 q x).1.len ≤ q.1.len + 16 := by
  have h1 := fld_len q 1 0 2 (b01 x.d)
  have h2 := fld_len (nodQ1 q x) 4 (-1) (nodLim (flV q x.d)) x.f
  unfold nodQ2
  unfold nodQ1 flQ at h2 ⊢
  omega
theorem nodQ1_len (q : Cs × Bool) (x : NodC) : (nodQ1 q x).1.len ≤ q.1.len + 8 := fld_len q 1 0 2 (b01 x.d)
theorem nodQ4_len (q : Cs × Bool) (x : NodC) (L : List Int) : (nodQ4 q x L).1.len ≤ q.1.len + 88 := by
  have h1 := nodQ3_len q x
  have h2 := labS_len (nodQ3 q x).1 (pl8 L) 8
  unfold nodQ4
  simp only
  omega
theorem nodQ3_isw (q : Cs × Bool) (x : NodC) : (nodQ3 q x).1.isw = q.1.isw := by unfold nodQ3 nodQ2 nodQ1 flQ; rw [fld_isw, fld_isw, fld_isw]
theorem nodQ4_isw (q : Cs × Bool) (x : NodC) (L : List Int) : (nodQ4 q x L).1.isw = q.1.isw := by unfold nodQ4; rw [labS_isw, nodQ3_isw]
theorem nodQ4_rl (q : Cs × Bool) (x : NodC) (L : List Int) : (nodQ4 q x L).1.rl ≤ q.1.rl := by
  unfold nodQ4 nodQ3 nodQ2 nodQ1 flQ
  exact Nat.le_trans (labS_rl _ _ _) (Nat.le_trans (fld_rl _ _ _ _ _) (Nat.le_trans (fld_rl _ _ _ _ _) (fld_rl _ _ _ _ _)))
theorem NodTQ_isw (q : Cs × Bool) (x : NodC) (L : List Int) (L2 : List Nat) : (nodTQ q x L L2).1.isw = q.1.isw := by unfold nodTQ; rw [slS_isw, nodQ4_isw]
theorem NodTQ_len (q : Cs × Bool) (x : NodC) (L : List Int) (L2 : List Nat) : (nodTQ q x L L2).1.len ≤ q.1.len + 88 + L2.length := by
  have h1 := nodQ4_len q x L
  have h2 := slS_len (nodQ4 q x L).1 L2 48
  unfold nodTQ
  simp only
  omega
set_option maxHeartbeats 400000 in
theorem firstLimit_any (n : Nat) (b : Bool) (w : World) (h : w.cell? ⟨n, 0, none⟩ = some (.bool b)) : Calls Try.prog 57 #[.pointer (some ⟨n, 0, none⟩)] w fun e w' => e = .returned (.int .i64 (nodLim b)) ∧ w' = w := by
  unfold nodLim
  cases b
  · simp only [Bool.false_eq_true, if_false]
    go_enter Try.func57, Try.ntmps57
    go_wp2
    go_ret
    exact ⟨rfl, rfl⟩
  · simp only [if_true]
    go_enter Try.func57, Try.ntmps57
    go_wp2
    go_ret
    exact ⟨rfl, rfl⟩
/-- the record's cells behind its fields, and what else stands then -/
def nodTF (q : Cs × Bool) (x : NodC) (A : Option Addr) (cap : Nat) (L : List Int) (A2 : Option Addr) (cap2 : Nat) (L2 : List Nat) (cy : Array Value) (X : Ass) : Prop := ∃ (g : Nat) (a : Option Addr) (b d : Nat) (a2 : Option Addr) (b2 d2 : Nat), labSl q.1.isw A L.length cap g (nodPl q x L) = .slice a b d ∧ cy = #[.bool (nodV q x).d, .int .i64 (nodV q x).f, .int .i64 (nodV q x).o, .slice a b d, .slice a2 b2 d2] ∧ X = Sep [BlkA g 3 (icells (nodPl q x L)), SlA (nodQ4 q x L).1 48 (.slice A2 L2.length cap2) (.slice a2 b2 d2)]
theorem nodTF_stab {q : Cs × Bool} {cy : Array Value} {X : Ass} {x : NodC} {A : Option Addr} {cap : Nat} {L : List Int} {A2 : Option Addr} {cap2 : Nat} {L2 : List Nat} (h : nodTF q x A cap L A2 cap2 L2 cy X) : Stable X := by
  obtain ⟨g, a, b, d, a2, b2, d2, hlab, rfl, rfl⟩ := h
  infer_instance
theorem nodTF_size {q : Cs × Bool} {cy : Array Value} {X : Ass} {x : NodC} {A : Option Addr} {cap : Nat} {L : List Int} {A2 : Option Addr} {cap2 : Nat} {L2 : List Nat} (h : nodTF q x A cap L A2 cap2 L2 cy X) : cy.size = 5 ∧ cy.all (·.oneCell') = true ∧ (Try.prog.info? 66).map (·.size) = some cy.size := by
  obtain ⟨g, a, b, d, a2, b2, d2, hlab, rfl, rfl⟩ := h
  exact ⟨rfl, by rw [← Array.all_toList]; rfl, by kernel_rfl⟩

section
variable {l : List Ass} {w0 w w' : World} {c : Nat} {q : Cs × Bool}
set_option maxRecDepth 100000 in
set_option maxHeartbeats 4000000 in
theorem nodTFields_any [Stable (Sep l)] {n : Nat} {x : NodC} {A : Option Addr} {cap B : Nat} {L : List Int} {A2 : Option Addr} {cap2 B2 : Nat} {L2 : List Nat} (h : St Zf (CoA c q.1 q.2 :: BlkA n 66 #[.bool x.d, .int .i64 x.f, .int .i64 x.o, .slice A L.length cap, .slice A2 L2.length cap2] :: l) w0 w) (hr : RL ivl w0 B A L) (hB : B ≤ w0.heap.size) (hcap : L.length ≤ cap) (hm : cap ≤ maxLen) (hr2 : RB w0 B2 A2 L2) (hB2 : B2 ≤ w0.heap.size) (hl2 : L2.length ≤ 140737488351232) (hs : q.1.len ≤ 1000) (hs2 : q.1.rl ≤ 140737488355328) :
    Calls Try.prog 31 #[.pointer (some ⟨n, 0, none⟩), .pointer (some ⟨c, 0, none⟩)] w fun e w' => e = .returned (.tuple #[]) ∧ ∃ cy X, nodTF q x A cap L A2 cap2 L2 cy X ∧ St Zf (CoA c (nodTQ q x L L2).1 (nodTQ q x L L2).2 :: BlkA n 66 cy :: X :: l) w0 w' := by
  have i3 := nodQ3_isw q x
  have H1 := Lib.hid (Flag_any (HoldsV.blk (n := n) (k := 0) (t := 66) (cs := fun z => #[z, .int .i64 x.f, .int .i64 x.o, .slice A L.length cap, .slice A2 L2.length cap2]) (fun z => rfl) (fun y z => rfl)) x.d h (by omega))
  have H2 := Lib.hid (fun (w1 : World) (h1 : St Zf (CoA c (nodQ1 q x).1 (nodQ1 q x).2 :: BlkA n 66 #[.bool (nodV q x).d, .int .i64 x.f, .int .i64 x.o, .slice A L.length cap, .slice A2 L2.length cap2] :: l) w0 w1) => Pointer_any (Holds.blk (n := n) (k := 1) (t := 66) (cs := fun z => #[.bool (nodV q x).d, .int .i64 z, .int .i64 x.o, .slice A L.length cap, .slice A2 L2.length cap2]) (fun z => rfl) (fun y z => rfl)) h1 (fits_of (by have := nodQ1_len q x; omega)) (nodLim (nodV q x).d))
  have HL := Lib.hid (fun (w1 : World) (h1 : St Zf (CoA c (nodQ1 q x).1 (nodQ1 q x).2 :: BlkA n 66 #[.bool (nodV q x).d, .int .i64 x.f, .int .i64 x.o, .slice A L.length cap, .slice A2 L2.length cap2] :: l) w0 w1) => firstLimit_any n (nodV q x).d w1 (by rw [h1.swap.blk.cell 0]; rfl))
  have H3 := Lib.hid (fun (w1 : World) (h1 : St Zf (CoA c (nodQ2 q x).1 (nodQ2 q x).2 :: BlkA n 66 #[.bool (nodV q x).d, .int .i64 (nodV q x).f, .int .i64 x.o, .slice A L.length cap, .slice A2 L2.length cap2] :: l) w0 w1) => Pointer_any (Holds.blk (n := n) (k := 2) (t := 66) (cs := fun z => #[.bool (nodV q x).d, .int .i64 (nodV q x).f, .int .i64 z, .slice A L.length cap, .slice A2 L2.length cap2]) (fun z => rfl) (fun y z => rfl)) h1 (fits_of (by have := nodQ2_len q x; omega)) 65536)
  have H4 := fun (w1 : World) (h1 : St Zf (CoA c (nodQ3 q x).1 (nodQ3 q x).2 :: BlkA n 66 #[.bool (nodV q x).d, .int .i64 (nodV q x).f, .int .i64 (nodV q x).o, .slice A L.length cap, .slice A2 L2.length cap2] :: l) w0 w1) => Labels_any (HoldsV.blk (n := n) (k := 3) (t := 66) (cs := fun z => #[.bool (nodV q x).d, .int .i64 (nodV q x).f, .int .i64 (nodV q x).o, z, .slice A2 L2.length cap2]) (fun z => rfl) (fun y z => rfl)) h1 hr hB hcap hm (by have := nodQ3_len q x; omega)
  rw [i3] at H4
  have H4 := Lib.hid H4
  have H5 := Lib.hid (fun (w1 : World) (g : Nat) (h1 : St Zf (CoA c (nodQ4 q x L).1 (nodQ4 q x L).2 :: BlkA n 66 #[.bool (nodV q x).d, .int .i64 (nodV q x).f, .int .i64 (nodV q x).o, (labSl q.1.isw A L.length cap g (nodPl q x L)), .slice A2 L2.length cap2] :: BlkA g 3 (icells (nodPl q x L)) :: l) w0 w1) => Slots_any (HoldsV.blk (n := n) (k := 4) (t := 66) (cs := fun z => #[.bool (nodV q x).d, .int .i64 (nodV q x).f, .int .i64 (nodV q x).o, (labSl q.1.isw A L.length cap g (nodPl q x L)), z]) (fun z => rfl) (fun y z => rfl)) 6 48 (by kernel_rfl) h1 hr2 hB2 hl2 (by have := nodQ4_len q x L; omega) (Nat.le_trans (nodQ4_rl q x L) hs2))
  have hfin : ∀ (W : World) (g : Nat) (a2 : Option Addr) (b2 d2 : Nat), St Zf (CoA c (nodTQ q x L L2).1 (nodTQ q x L L2).2 :: BlkA n 66 #[.bool (nodV q x).d, .int .i64 (nodV q x).f, .int .i64 (nodV q x).o, (labSl q.1.isw A L.length cap g (nodPl q x L)), .slice a2 b2 d2] :: SlA (nodQ4 q x L).1 48 (.slice A2 L2.length cap2) (.slice a2 b2 d2) :: BlkA g 3 (icells (nodPl q x L)) :: l) w0 W → ∃ cy X, nodTF q x A cap L A2 cap2 L2 cy X ∧ St Zf (CoA c (nodTQ q x L L2).1 (nodTQ q x L L2).2 :: BlkA n 66 cy :: X :: l) w0 W := by
    intro W g a2 b2 d2 hW
    obtain ⟨a, b, d, hz⟩ := labSl_form q.1.isw A L.length cap g (nodPl q x L)
    refine ⟨_, _, ⟨g, a, b, d, a2, b2, d2, hz, rfl, rfl⟩, ?_⟩
    rw [hz] at hW
    exact (St.pack (l' := [BlkA g 3 (icells (nodPl q x L)), SlA (nodQ4 q x L).1 48 (.slice A2 L2.length cap2) (.slice a2 b2 d2)]) hW.bring2.bring3).bring2.bring2
  have HFIN := Lib.hid hfin
  clear h hs hs2 hr hr2 hl2 hfin i3
  go_enter Try.func31, Try.ntmps31
  go_upto_region 1 with (go_at_call 55; refine (H1.out).mono ?_; rintro e w1 ⟨rfl, h1⟩; have h1 := Lib.hid h1)
  go_region_held3 (fun w' => True) (go_keep)
    ((first
      | (go_at_call 57; refine (HL.out _ h1.out.drew).mono ?_; rintro e w2 ⟨rfl, rfl⟩)
      | (go_at_call 56; refine (H2.out _ h1.out.drew).mono ?_; rintro e w3 ⟨rfl, h3⟩)))
  go_upto_region 3 with (go_at_call 56; refine (H3.out _ h3).mono ?_; rintro e w4 ⟨rfl, h4⟩)
  go_upto_region 4 with (go_at_call 58; refine (H4.out _ h4).mono ?_; rintro e w5 ⟨rfl, g, h5⟩)
  go_wp2_with (go_at_call 59; refine (H5.out _ g h5).mono ?_; rintro e w6 ⟨rfl, a2, b2, d2, h6⟩)
  go_end0
  exact ⟨rfl, HFIN.out _ _ _ _ _ h6⟩

set_option maxRecDepth 100000 in
set_option maxHeartbeats 4000000 in
theorem codeNodT_any [Stable (Sep l)] {x : NodC} {A : Option Addr} {cap B : Nat} {L : List Int} {A2 : Option Addr} {cap2 B2 : Nat} {L2 : List Nat} (h : St Zf (CoA c q.1 q.2 :: l) w0 w) (hr : RL ivl w0 B A L) (hB : B ≤ w0.heap.size) (hcap : L.length ≤ cap) (hm : cap ≤ maxLen) (hr2 : RB w0 B2 A2 L2) (hB2 : B2 ≤ w0.heap.size) (hl2 : L2.length ≤ 140737488351232) (hs : q.1.len ≤ 1000) (hs2 : q.1.rl ≤ 140737488355328) :
    Calls Try.prog 53 #[.pointer (some ⟨c, 0, none⟩), .agg #[.bool x.d, .int .i64 x.f, .int .i64 x.o, .slice A L.length cap, .slice A2 L2.length cap2], .func (.func 31) #[] #[]] w fun e w' => ∃ cy X, nodTF q x A cap L A2 cap2 L2 cy X ∧ e = .returned (.tuple #[if (nodTQ q x L L2).1.endE (nodTQ q x L L2).2 = 0 then .agg cy else .agg #[.bool false, .int .i64 0, .int .i64 0, .slice none 0 0, .slice none 0 0], .int .i64 ((nodTQ q x L L2).1.endE (nodTQ q x L L2).2)]) ∧ St Zf (CoA c (nodTQ q x L L2).1 (nodTQ q x L L2).2 :: X :: l) w0 w' := by
  have HF := fun (w1 : World) (n : Nat) (l' : List Ass) (hl' : Stable (Sep l')) (h1 : St Zf (CoA c q.1 q.2 :: BlkA n 66 #[.bool x.d, .int .i64 x.f, .int .i64 x.o, .slice A L.length cap, .slice A2 L2.length cap2] :: l') w0 w1) => (nodTFields_any h1 hr hB hcap hm hr2 hB2 hl2 hs hs2).mono (fun e w' (hp : e = .returned (.tuple #[]) ∧ ∃ cy X, nodTF q x A cap L A2 cap2 L2 cy X ∧ St Zf (CoA c (nodTQ q x L L2).1 (nodTQ q x L L2).2 :: BlkA n 66 cy :: X :: l') w0 w') => (show e = .returned (.tuple #[]) ∧ ∃ cy X, nodTF q x A cap L A2 cap2 L2 cy X ∧ cy.size = 5 ∧ cy.all (·.oneCell') = true ∧ (Try.prog.info? 66).map (·.size) = some cy.size ∧ Stable X ∧ St Zf (CoA c (nodTQ q x L L2).1 (nodTQ q x L L2).2 :: BlkA n 66 cy :: X :: l') w0 w' from by
    obtain ⟨rfl, cy, X, hF, h⟩ := hp
    obtain ⟨s1, s2, s3⟩ := nodTF_size hF
    exact ⟨rfl, cy, X, hF, s1, s2, s3, nodTF_stab hF, h⟩))
  obtain ⟨cx, hcx⟩ : ∃ cx : Array Value, cx = #[.bool x.d, .int .i64 x.f, .int .i64 x.o, .slice A L.length cap, .slice A2 L2.length cap2] := ⟨_, rfl⟩
  obtain ⟨cz, hcz⟩ : ∃ cz : Array Value, cz = #[.bool false, .int .i64 0, .int .i64 0, .slice none 0 0, .slice none 0 0] := ⟨_, rfl⟩
  have sx : cx.size = 5 := by rw [hcx]; rfl
  have sz : cz.size = 5 := by rw [hcz]; rfl
  have oz : cz.all (·.oneCell') = true := by rw [hcz, ← Array.all_toList]; rfl
  have hiz : (Try.prog.info? 66).map (·.size) = some cz.size := by rw [sz]; kernel_rfl
  rw [← hcx] at HF ⊢
  rw [← hcz]
  clear hcx
  have h1 : St Zf (CoA c q.1 q.2 :: BlkA w.heap.size 66 cx :: BlkA (w.heap.size + 1) 66 cz :: l) w0 ((w.alloc (.cells cx 66)).alloc (.cells cz 66)) := by
    have a := ((h.newBlk 66 cx).swap.newBlk 66 cz).back2
    simpa using a
  obtain ⟨w1, hw1⟩ : ∃ w1, w1 = ((w.alloc (.cells cx 66)).alloc (.cells cz 66)) := ⟨_, rfl⟩
  rw [← hw1] at h1
  have HF := Lib.hid (HF w1 w.heap.size _ inferInstance h1)
  obtain ⟨E, hE⟩ : ∃ E, E = (nodTQ q x L L2).1.endE (nodTQ q x L L2).2 := ⟨_, rfl⟩
  have HW1 := Lib.hid hw1
  rw [← hE]
  have HEA := fun (w2 : World) (cy : Array Value) (X : Ass) (hst : Stable X) (h2 : St Zf (CoA c (nodTQ q x L L2).1 (nodTQ q x L L2).2 :: BlkA w.heap.size 66 cy :: X :: BlkA (w.heap.size + 1) 66 cz :: l) w0 w2) => end_any h2
  rw [← hE] at HEA
  have HEA := Lib.hid HEA
  have HZ := Lib.hid hcz
  clear h h1 hE hw1 hcz hr hl2
  by_cases h0 : E = 0
  · subst h0
    go_enter Try.func53, Try.ntmps53
    go_wp2_with (first | (go_at_call 31; rw [← HZ.out, ← HW1.out]; refine (HF.out).mono ?_; rintro e w2 ⟨rfl, cy, X, hF, sy, oy, hiy, hst, h2⟩; have hF := Lib.hid hF) | (go_at_call 69; refine (HEA.out _ _ _ hst h2).mono ?_; rintro e w3 ⟨rfl, h3⟩; have hb3 := h3.swap.blk; have hr3 := h3.bring3.blk; have h4 := Lib.hid (h3.bring3.setRow cy)) | (refine wpList_load_row rfl 66 _ rfl w.heap.size rfl 66 cy (0, 0) _ hb3 Try.underlying66 rfl hiy ?_) | (refine wpList_store_row rfl 66 _ _ rfl (w.heap.size + 1) cy rfl rfl 66 cz hr3 hiy (by rw [sz, sy]) oy ?_))
    refine bodyPost_ret (results_row_tmp rfl _ _ (w.heap.size + 1) 66 cy _ rfl h4.out.blk Try.underlying66 rfl hiy) rfl ?_
    exact ⟨cy, X, hF.out, rfl, h4.out.drop.swap.drop⟩
  · have hb : (E != 0) = true := by simpa using h0
    simp only [if_neg h0]
    clear h0
    go_enter Try.func53, Try.ntmps53
    go_wp2_with (first | (go_at_call 31; rw [← HZ.out, ← HW1.out]; refine (HF.out).mono ?_; rintro e w2 ⟨rfl, cy, X, hF, sy, oy, hiy, hst, h2⟩; have hF := Lib.hid hF) | (go_at_call 69; refine (HEA.out _ _ _ hst h2).mono ?_; rintro e w3 ⟨rfl, h3⟩; have h3 := h3.newBlk 66 cz; have hb3 := h3.blk; have hr3 := h3.bring4.blk; have h4 := Lib.hid (h3.bring4.setRow cz)) | (rw [← HZ.out]; refine wpList_load_row rfl 66 _ rfl w3.heap.size rfl 66 cz (0, 0) _ hb3 Try.underlying66 rfl hiz ?_) | (refine wpList_store_row rfl 66 _ _ rfl (w.heap.size + 1) cz rfl rfl 66 cz hr3 hiz rfl oz ?_))
    refine bodyPost_ret (results_row_tmp rfl _ _ (w.heap.size + 1) 66 cz _ rfl h4.out.blk Try.underlying66 rfl hiz) rfl ?_
    exact ⟨cy, X, hF.out, rfl, h4.out.drop.drop.swap.drop⟩
end

/-- what Put finds -/
def putNodTQ (x : NodC) (L : List Int) (L2 : List Nat) : Cs × Bool := nodTQ (.w [], false) x L L2
def putNodTE (x : NodC) (L : List Int) (L2 : List Nat) : Int := (putNodTQ x L L2).1.endE (putNodTQ x L L2).2

set_option maxRecDepth 100000 in
set_option maxHeartbeats 4000000 in
theorem writeNodT_any (x : NodC) (A : Option Addr) (cap B : Nat) (L : List Int) (A2 : Option Addr) (cap2 B2 : Nat) (L2 : List Nat) (w : World) (hr : RL ivl w B A L) (hB : B ≤ w.heap.size) (hcap : L.length ≤ cap) (hm : cap ≤ maxLen) (hr2 : RB w B2 A2 L2) (hB2 : B2 ≤ w.heap.size) (hl2 : L2.length ≤ 140737488351232) :
    Calls Try.prog 30 #[.agg #[.bool x.d, .int .i64 x.f, .int .i64 x.o, .slice A L.length cap, .slice A2 L2.length cap2], .func (.func 31) #[] #[]] w fun e w' => ∃ v, e = .returned (.tuple #[v, .int .i64 (putNodTE x L L2)]) ∧ OB w' w.heap.size 5 v (if putNodTE x L L2 = 0 then (putNodTQ x L L2).1.bytes else []) ∧ Below w.heap.size w w' := by
  have HC := fun (w1 : World) (c : Nat) (l' : List Ass) (hl' : Stable (Sep l')) (h1 : St Zf (CoA c (.w []) false :: l') w w1) => (codeNodT_any (q := (.w [], false)) h1 hr hB hcap hm hr2 hB2 hl2 (by simp [Cs.len]) (Nat.zero_le _)).mono (fun e w' (hp : ∃ cy X, nodTF (.w [], false) x A cap L A2 cap2 L2 cy X ∧ e = .returned (.tuple #[if (nodTQ (.w [], false) x L L2).1.endE (nodTQ (.w [], false) x L L2).2 = 0 then .agg cy else .agg #[.bool false, .int .i64 0, .int .i64 0, .slice none 0 0, .slice none 0 0], .int .i64 ((nodTQ (.w [], false) x L L2).1.endE (nodTQ (.w [], false) x L L2).2)]) ∧ St Zf (CoA c (nodTQ (.w [], false) x L L2).1 (nodTQ (.w [], false) x L L2).2 :: X :: l') w w') => (show ∃ cy X, cy.size = 5 ∧ cy.all (·.oneCell') = true ∧ (Try.prog.info? 66).map (·.size) = some cy.size ∧ Stable X ∧ e = .returned (.tuple #[if (nodTQ (.w [], false) x L L2).1.endE (nodTQ (.w [], false) x L L2).2 = 0 then .agg cy else .agg #[.bool false, .int .i64 0, .int .i64 0, .slice none 0 0, .slice none 0 0], .int .i64 ((nodTQ (.w [], false) x L L2).1.endE (nodTQ (.w [], false) x L L2).2)]) ∧ St Zf (CoA c (nodTQ (.w [], false) x L L2).1 (nodTQ (.w [], false) x L L2).2 :: X :: l') w w' from by
    obtain ⟨cy, X, hF, rfl, h⟩ := hp
    obtain ⟨s1, s2, s3⟩ := nodTF_size hF
    exact ⟨cy, X, s1, s2, s3, nodTF_stab hF, rfl, h⟩))
  obtain ⟨cx, hcx⟩ : ∃ cx : Array Value, cx = #[.bool x.d, .int .i64 x.f, .int .i64 x.o, .slice A L.length cap, .slice A2 L2.length cap2] := ⟨_, rfl⟩
  obtain ⟨cz, hcz⟩ : ∃ cz : Array Value, cz = #[.bool false, .int .i64 0, .int .i64 0, .slice none 0 0, .slice none 0 0] := ⟨_, rfl⟩
  have sx : cx.size = 5 := by rw [hcx]; rfl
  have sz : cz.size = 5 := by rw [hcz]; rfl
  have oz : cz.all (·.oneCell') = true := by rw [hcz, ← Array.all_toList]; rfl
  have hix : (Try.prog.info? 66).map (·.size) = some cx.size := by rw [sx]; kernel_rfl
  have hiz : (Try.prog.info? 66).map (·.size) = some cz.size := by rw [sz]; kernel_rfl
  have hE : (nodTQ (.w [], false) x L L2).1.endE (nodTQ (.w [], false) x L L2).2 = putNodTE x L L2 := rfl
  have hQ : nodTQ (.w [], false) x L L2 = putNodTQ x L L2 := rfl
  rw [hE, hQ, ← hcx, ← hcz] at HC
  rw [← hcx]
  have HZ := Lib.hid hcz
  clear hcx hcz
  have h0 := (St.start Zf w).newBlk 66 cx
  have h1 := h0.newCoW
  have e0 : (w.alloc (.cells cx 66)).heap.size = w.heap.size + 1 := by simp
  rw [e0] at h1
  obtain ⟨w1, hw1⟩ : ∃ w1, w1 = (((w.alloc (.cells cx 66)).alloc (.cells #[.slice none 0 0] 124)).alloc (.cells #[.pointer (some ⟨w.heap.size + 1, 0, none⟩), .pointer none, .bool false] 103)) := ⟨_, rfl⟩
  rw [← hw1] at h1
  have hbx := h1.swap.blk
  have HC := Lib.hid (HC w1 _ _ inferInstance h1)
  have HNW := Lib.hid (NewWriter_any (w.alloc (.cells cx 66)))
  have hi : (putNodTQ x L L2).1.isw = true := by rw [← hQ, NodTQ_isw]; rfl
  have hlen : (putNodTQ x L L2).1.len ≤ 140737488355328 := by have hl0 : (((.w [], false) : Cs × Bool)).1.len = 0 := rfl; have := NodTQ_len (.w [], false) x L L2; rw [hQ, hl0] at this; omega
  obtain ⟨E, hE'⟩ : ∃ E, E = putNodTE x L L2 := ⟨_, rfl⟩
  obtain ⟨q, hq⟩ : ∃ q, q = putNodTQ x L L2 := ⟨_, rfl⟩
  rw [← hE', ← hq] at HC
  rw [← hE', ← hq]
  rw [← hq] at hi hlen
  have HW1 := Lib.hid hw1
  have HI := Lib.hid hi
  have HL := Lib.hid hlen
  have HBX := Lib.hid hbx
  clear h0 h1 hw1 hE hQ hE' hq e0 hi hlen hbx hr hl2
  by_cases h0 : E = 0
  · subst h0
    simp only at HC ⊢
    go_enter Try.func30, Try.ntmps30
    go_wp2_with (first | (go_at_call 52; refine (HNW.out).mono ?_; rintro e w2 ⟨rfl, rfl⟩) | (rw [← HW1.out]; refine wpList_load_row rfl 66 _ rfl w.heap.size rfl 66 cx (0, 0) _ HBX.out Try.underlying66 rfl hix ?_) | (go_at_call 53; refine (HC.out).mono ?_; rintro e w3 ⟨cy, X, sy, oy, hiy, hst, rfl, h3⟩; have h4 := h3.newBlk 66 cz; have hr4 := h4.blk; have h5 := h4.setRow cy; obtain ⟨g2, k0, HB⟩ := bytes_co h5.swap HI.out HL.out; have HB := Lib.hid HB; have H4 := Lib.hid h5; clear h3 h4 h5) | (rw [← HZ.out]; refine wpList_store_row rfl 66 _ _ rfl w3.heap.size cy rfl rfl 66 cz hr4 hiy (by rw [sz, sy]) oy ?_) | (go_at_call 54; refine (HB.out).mono ?_; rintro e w5 ⟨v5, rfl, ho5, hb5⟩))
    go_ret2
    have hb4 := H4.out.bel
    exact ⟨v5, rfl, ho5.mono hb4.size, hb4.trans (hb5.mono hb4.size)⟩
  · have hb : (E != 0) = true := by simpa using h0
    simp only [if_neg h0] at HC ⊢
    clear h0
    go_enter Try.func30, Try.ntmps30
    go_wp2_with (first | (go_at_call 52; refine (HNW.out).mono ?_; rintro e w2 ⟨rfl, rfl⟩) | (rw [← HW1.out]; refine wpList_load_row rfl 66 _ rfl w.heap.size rfl 66 cx (0, 0) _ HBX.out Try.underlying66 rfl hix ?_) | (go_at_call 53; refine (HC.out).mono ?_; rintro e w3 ⟨cy, X, sy, oy, hiy, hst, rfl, h3⟩; have h4 := h3.newBlk 66 cz; have hr4 := h4.blk; have h5 := h4.setRow cz; have H4 := Lib.hid h5; clear h3 h4 h5) | (rw [← HZ.out]; refine wpList_store_row rfl 66 _ _ rfl w3.heap.size cz rfl rfl 66 cz hr4 hiz rfl oz ?_))
    go_ret2
    exact ⟨_, rfl, OB.nil _ _ _, H4.out.bel⟩

set_option maxRecDepth 100000 in
set_option maxHeartbeats 1000000 in
theorem PutNodT_any (x : NodC) (A : Option Addr) (cap B : Nat) (L : List Int) (A2 : Option Addr) (cap2 B2 : Nat) (L2 : List Nat) (w : World) (hr : RL ivl w B A L) (hB : B ≤ w.heap.size) (hcap : L.length ≤ cap) (hm : cap ≤ maxLen) (hr2 : RB w B2 A2 L2) (hB2 : B2 ≤ w.heap.size) (hl2 : L2.length ≤ 140737488351232) :
    Calls Try.prog 13 #[.agg #[.bool x.d, .int .i64 x.f, .int .i64 x.o, .slice A L.length cap, .slice A2 L2.length cap2]] w fun e w' => ∃ v, e = .returned (.tuple #[v, .int .i64 (putNodTE x L L2)]) ∧ OB w' w.heap.size 5 v (if putNodTE x L L2 = 0 then (putNodTQ x L L2).1.bytes else []) ∧ Below w.heap.size w w' := by
  have H := fun w1 => writeNodT_any x A cap B L A2 cap2 B2 L2 w1
  obtain ⟨cx, hcx⟩ : ∃ cx : Array Value, cx = #[.bool x.d, .int .i64 x.f, .int .i64 x.o, .slice A L.length cap, .slice A2 L2.length cap2] := ⟨_, rfl⟩
  have sx : cx.size = 5 := by rw [hcx]; rfl
  have hix : (Try.prog.info? 26).map (·.size) = some cx.size := by rw [sx]; kernel_rfl
  rw [← hcx] at H ⊢
  have hsz : w.heap.size ≤ (w.alloc (.cells cx 26)).heap.size := by simp
  have H := Lib.hid (H (w.alloc (.cells cx 26)) (hr.alloc hB _) (Nat.le_trans hB hsz) hcap hm (hr2.alloc hB2 _) (Nat.le_trans hB2 hsz) hl2)
  obtain ⟨Y, hY⟩ : ∃ Y, Y = (if putNodTE x L L2 = 0 then (putNodTQ x L L2).1.bytes else []) := ⟨_, rfl⟩
  rw [← hY] at H ⊢
  have hbx := heap_alloc_new w (.cells cx 26)
  have HBX := Lib.hid hbx
  clear hY hcx hbx hr hsz hl2
  go_enter Try.func13, Try.ntmps13
  go_wp2_with (first | (go_at_call 30; refine (H.out).mono ?_; rintro e w2 ⟨v, rfl, ho, hb⟩) | (refine wpList_load_row rfl 26 _ rfl w.heap.size rfl 26 cx (0, 0) _ HBX.out Try.underlying26 rfl hix ?_))
  go_ret2
  exact ⟨v, rfl, ho.mono (base' := w.heap.size) (by simp), ((Below.refl _ _).alloc (Nat.le_refl _) _).trans (hb.mono (by simp))⟩
end Go.Proofs.Ytmiiogailnjfpaa
