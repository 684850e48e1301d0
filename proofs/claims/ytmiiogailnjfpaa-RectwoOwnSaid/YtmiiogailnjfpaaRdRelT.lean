/- A rel's record of rectwo: fields, code, Write, Put. Written by mkrd2.py. -/
import Derived.Test.YtmiiogailnjfpaaRcRelF
import Derived.Test.YtmiiogailnjfpaaRdSlots
namespace Go.Proofs.Ytmiiogailnjfpaa
open Go.RowKit
set_option linter.unusedVariables false

def relTQ (q : Cs × Bool) (x : RelC) (L : List Nat) : Cs × Bool := (slS (relQ q x).1 L 32, slW (relQ q x).1 (relQ q x).2 L 32)
theorem relQ_rl (q : Cs × Bool) (x : RelC) : (relQ q x).1.rl ≤ q.1.rl := by
  unfold relQ relQ8 relQ7 relQ6 relQ5 relQ4 relQ3 relQ2 relQ1 relQ0
  exact Nat.le_trans (fld_rl _ _ _ _ _) (Nat.le_trans (fld_rl _ _ _ _ _) (Nat.le_trans (fld_rl _ _ _ _ _) (Nat.le_trans (fld_rl _ _ _ _ _) (Nat.le_trans (fld_rl _ _ _ _ _) (Nat.le_trans (fld_rl _ _ _ _ _) (Nat.le_trans (fld_rl _ _ _ _ _) (fld_rl _ _ _ _ _)))))))
theorem relTQ_isw (q : Cs × Bool) (x : RelC) (L : List Nat) : (relTQ q x L).1.isw = q.1.isw := by unfold relTQ; rw [slS_isw, relQ_isw]
theorem relTQ_len (q : Cs × Bool) (x : RelC) (L : List Nat) : (relTQ q x L).1.len ≤ q.1.len + 80 + L.length := by
  have h1 := relQ_len q x
  have h2 := slS_len (relQ q x).1 L 32
  unfold relTQ
  simp only
  omega
theorem reltwo_holds (lv : Bool) (pr : Int) (v : Value) (n : Nat) : LinkHolds (fun fr to fp tp fn tn ty => BlkA n 81 #[.bool lv, .int .i64 fr, .int .i64 to, .int .i64 fp, .int .i64 tp, .int .i64 fn, .int .i64 tn, .int .i64 ty, .int .i64 pr, v]) n where
  fr := fun _ _ _ _ _ _ => Holds.blk (fun z => rfl) (fun y z => rfl)
  to := fun _ _ _ _ _ _ => Holds.blk (fun z => rfl) (fun y z => rfl)
  fp := fun _ _ _ _ _ _ => Holds.blk (fun z => rfl) (fun y z => rfl)
  tp := fun _ _ _ _ _ _ => Holds.blk (fun z => rfl) (fun y z => rfl)
  fn := fun _ _ _ _ _ _ => Holds.blk (fun z => rfl) (fun y z => rfl)
  tn := fun _ _ _ _ _ _ => Holds.blk (fun z => rfl) (fun y z => rfl)
  ty := fun _ _ _ _ _ _ => Holds.blk (fun z => rfl) (fun y z => rfl)
/-- the record's cells behind its fields, and what else stands then -/
def relTF (q : Cs × Bool) (x : RelC) (A : Option Addr) (cap : Nat) (L : List Nat) (cy : Array Value) (X : Ass) : Prop := ∃ (a : Option Addr) (b d : Nat), cy = #[.bool x.lv, .int .i64 (relV q x).fr, .int .i64 (relV q x).to, .int .i64 (relV q x).fp, .int .i64 (relV q x).tp, .int .i64 (relV q x).fn, .int .i64 (relV q x).tn, .int .i64 (relV q x).ty, .int .i64 (relV q x).pr, .slice a b d] ∧ X = SlA (relQ q x).1 32 (.slice A L.length cap) (.slice a b d)
theorem relTF_stab {q : Cs × Bool} {cy : Array Value} {X : Ass} {x : RelC} {A : Option Addr} {cap : Nat} {L : List Nat} (h : relTF q x A cap L cy X) : Stable X := by
  obtain ⟨a, b, d, rfl, rfl⟩ := h
  infer_instance
theorem relTF_size {q : Cs × Bool} {cy : Array Value} {X : Ass} {x : RelC} {A : Option Addr} {cap : Nat} {L : List Nat} (h : relTF q x A cap L cy X) : cy.size = 10 ∧ cy.all (·.oneCell') = true ∧ (Try.prog.info? 81).map (·.size) = some cy.size := by
  obtain ⟨a, b, d, rfl, rfl⟩ := h
  exact ⟨rfl, by rw [← Array.all_toList]; rfl, by kernel_rfl⟩

section
variable {l : List Ass} {w0 w w' : World} {c : Nat} {q : Cs × Bool}
set_option maxRecDepth 100000 in
set_option maxHeartbeats 4000000 in
theorem relTFields_any [Stable (Sep l)] {n : Nat} {x : RelC} {A : Option Addr} {cap B : Nat} {L : List Nat} (h : St Zf (CoA c q.1 q.2 :: BlkA n 81 #[.bool x.lv, .int .i64 x.fr, .int .i64 x.to, .int .i64 x.fp, .int .i64 x.tp, .int .i64 x.fn, .int .i64 x.tn, .int .i64 x.ty, .int .i64 x.pr, .slice A L.length cap] :: l) w0 w) (hr : RB w0 B A L) (hB : B ≤ w0.heap.size) (hl : L.length ≤ 140737488351232) (hs : q.1.len ≤ 1000) (hs2 : q.1.rl ≤ 140737488355328) :
    Calls Try.prog 43 #[.pointer (some ⟨n, 0, none⟩), .pointer (some ⟨c, 0, none⟩)] w fun e w' => e = .returned (.tuple #[]) ∧ ∃ cy X, relTF q x A cap L cy X ∧ St Zf (CoA c (relTQ q x L).1 (relTQ q x L).2 :: BlkA n 81 cy :: X :: l) w0 w' := by
  have H1 := Lib.hid (Rel_any (reltwo_holds x.lv x.pr (.slice A L.length cap) n) h.drew (Nat.le_trans hs (by decide)))
  have H2 := Lib.hid (fun (w1 : World) (h1 : St Zf (CoA c (relQ7 q x).1 (relQ7 q x).2 :: BlkA n 81 #[.bool x.lv, .int .i64 (relV q x).fr, .int .i64 (relV q x).to, .int .i64 (relV q x).fp, .int .i64 (relV q x).tp, .int .i64 (relV q x).fn, .int .i64 (relV q x).tn, .int .i64 (relV q x).ty, .int .i64 x.pr, .slice A L.length cap] :: l) w0 w1) => Pointer_any (Holds.blk (n := n) (k := 8) (t := 81) (cs := fun z => #[.bool x.lv, .int .i64 (relV q x).fr, .int .i64 (relV q x).to, .int .i64 (relV q x).fp, .int .i64 (relV q x).tp, .int .i64 (relV q x).fn, .int .i64 (relV q x).tn, .int .i64 (relV q x).ty, .int .i64 z, .slice A L.length cap]) (fun z => rfl) (fun y z => rfl)) h1 (fits_of (by have := relQ7_len q x; omega)) 65536)
  have H3 := Lib.hid (fun (w1 : World) (h1 : St Zf (CoA c (relQ q x).1 (relQ q x).2 :: BlkA n 81 #[.bool x.lv, .int .i64 (relV q x).fr, .int .i64 (relV q x).to, .int .i64 (relV q x).fp, .int .i64 (relV q x).tp, .int .i64 (relV q x).fn, .int .i64 (relV q x).tn, .int .i64 (relV q x).ty, .int .i64 (relV q x).pr, .slice A L.length cap] :: l) w0 w1) => Slots_any (HoldsV.blk (n := n) (k := 9) (t := 81) (cs := fun z => #[.bool x.lv, .int .i64 (relV q x).fr, .int .i64 (relV q x).to, .int .i64 (relV q x).fp, .int .i64 (relV q x).tp, .int .i64 (relV q x).fn, .int .i64 (relV q x).tn, .int .i64 (relV q x).ty, .int .i64 (relV q x).pr, z]) (fun z => rfl) (fun y z => rfl)) 4 32 (by kernel_rfl) h1 hr hB hl (by have := relQ_len q x; omega) (Nat.le_trans (relQ_rl q x) hs2))
  clear h hs hs2 hr hl
  go_enter Try.func43, Try.ntmps43
  go_wp2
  go_region_held3 (fun w' => True) (go_keep)
    ((go_at_call 63; refine (H1.out).mono ?_; rintro e w1 ⟨rfl, h1⟩))
  go_upto_region 2 with (go_at_call 56; refine (H2.out _ h1).mono ?_; rintro e w2 ⟨rfl, h2⟩)
  go_wp2_with (go_at_call 59; refine (H3.out _ h2).mono ?_; rintro e w3 ⟨rfl, a, b, d, h3⟩)
  go_end0
  exact ⟨rfl, _, _, ⟨a, b, d, rfl, rfl⟩, h3⟩

set_option maxRecDepth 100000 in
set_option maxHeartbeats 4000000 in
theorem codeRelT_any [Stable (Sep l)] {x : RelC} {A : Option Addr} {cap B : Nat} {L : List Nat} (h : St Zf (CoA c q.1 q.2 :: l) w0 w) (hr : RB w0 B A L) (hB : B ≤ w0.heap.size) (hl : L.length ≤ 140737488351232) (hs : q.1.len ≤ 1000) (hs2 : q.1.rl ≤ 140737488355328) :
    Calls Try.prog 62 #[.pointer (some ⟨c, 0, none⟩), .agg #[.bool x.lv, .int .i64 x.fr, .int .i64 x.to, .int .i64 x.fp, .int .i64 x.tp, .int .i64 x.fn, .int .i64 x.tn, .int .i64 x.ty, .int .i64 x.pr, .slice A L.length cap], .func (.func 43) #[] #[]] w fun e w' => ∃ cy X, relTF q x A cap L cy X ∧ e = .returned (.tuple #[if (relTQ q x L).1.endE (relTQ q x L).2 = 0 then .agg cy else .agg #[.bool false, .int .i64 0, .int .i64 0, .int .i64 0, .int .i64 0, .int .i64 0, .int .i64 0, .int .i64 0, .int .i64 0, .slice none 0 0], .int .i64 ((relTQ q x L).1.endE (relTQ q x L).2)]) ∧ St Zf (CoA c (relTQ q x L).1 (relTQ q x L).2 :: X :: l) w0 w' := by
  have HF := fun (w1 : World) (n : Nat) (l' : List Ass) (hl' : Stable (Sep l')) (h1 : St Zf (CoA c q.1 q.2 :: BlkA n 81 #[.bool x.lv, .int .i64 x.fr, .int .i64 x.to, .int .i64 x.fp, .int .i64 x.tp, .int .i64 x.fn, .int .i64 x.tn, .int .i64 x.ty, .int .i64 x.pr, .slice A L.length cap] :: l') w0 w1) => (relTFields_any h1 hr hB hl hs hs2).mono (fun e w' (hp : e = .returned (.tuple #[]) ∧ ∃ cy X, relTF q x A cap L cy X ∧ St Zf (CoA c (relTQ q x L).1 (relTQ q x L).2 :: BlkA n 81 cy :: X :: l') w0 w') => (show e = .returned (.tuple #[]) ∧ ∃ cy X, relTF q x A cap L cy X ∧ cy.size = 10 ∧ cy.all (·.oneCell') = true ∧ (Try.prog.info? 81).map (·.size) = some cy.size ∧ Stable X ∧ St Zf (CoA c (relTQ q x L).1 (relTQ q x L).2 :: BlkA n 81 cy :: X :: l') w0 w' from by
    obtain ⟨rfl, cy, X, hF, h⟩ := hp
    obtain ⟨s1, s2, s3⟩ := relTF_size hF
    exact ⟨rfl, cy, X, hF, s1, s2, s3, relTF_stab hF, h⟩))
  obtain ⟨cx, hcx⟩ : ∃ cx : Array Value, cx = #[.bool x.lv, .int .i64 x.fr, .int .i64 x.to, .int .i64 x.fp, .int .i64 x.tp, .int .i64 x.fn, .int .i64 x.tn, .int .i64 x.ty, .int .i64 x.pr, .slice A L.length cap] := ⟨_, rfl⟩
  obtain ⟨cz, hcz⟩ : ∃ cz : Array Value, cz = #[.bool false, .int .i64 0, .int .i64 0, .int .i64 0, .int .i64 0, .int .i64 0, .int .i64 0, .int .i64 0, .int .i64 0, .slice none 0 0] := ⟨_, rfl⟩
  have sx : cx.size = 10 := by rw [hcx]; rfl
  have sz : cz.size = 10 := by rw [hcz]; rfl
  have oz : cz.all (·.oneCell') = true := by rw [hcz, ← Array.all_toList]; rfl
  have hiz : (Try.prog.info? 81).map (·.size) = some cz.size := by rw [sz]; kernel_rfl
  rw [← hcx] at HF ⊢
  rw [← hcz]
  clear hcx
  have h1 : St Zf (CoA c q.1 q.2 :: BlkA w.heap.size 81 cx :: BlkA (w.heap.size + 1) 81 cz :: l) w0 ((w.alloc (.cells cx 81)).alloc (.cells cz 81)) := by
    have a := ((h.newBlk 81 cx).swap.newBlk 81 cz).back2
    simpa using a
  obtain ⟨w1, hw1⟩ : ∃ w1, w1 = ((w.alloc (.cells cx 81)).alloc (.cells cz 81)) := ⟨_, rfl⟩
  rw [← hw1] at h1
  have HF := Lib.hid (HF w1 w.heap.size _ inferInstance h1)
  obtain ⟨E, hE⟩ : ∃ E, E = (relTQ q x L).1.endE (relTQ q x L).2 := ⟨_, rfl⟩
  have HW1 := Lib.hid hw1
  rw [← hE]
  have HEA := fun (w2 : World) (cy : Array Value) (X : Ass) (hst : Stable X) (h2 : St Zf (CoA c (relTQ q x L).1 (relTQ q x L).2 :: BlkA w.heap.size 81 cy :: X :: BlkA (w.heap.size + 1) 81 cz :: l) w0 w2) => end_any h2
  rw [← hE] at HEA
  have HEA := Lib.hid HEA
  have HZ := Lib.hid hcz
  clear h h1 hE hw1 hcz hr hl
  by_cases h0 : E = 0
  · subst h0
    go_enter Try.func62, Try.ntmps62
    go_wp2_with (first | (go_at_call 43; rw [← HZ.out, ← HW1.out]; refine (HF.out).mono ?_; rintro e w2 ⟨rfl, cy, X, hF, sy, oy, hiy, hst, h2⟩; have hF := Lib.hid hF) | (go_at_call 69; refine (HEA.out _ _ _ hst h2).mono ?_; rintro e w3 ⟨rfl, h3⟩; have hb3 := h3.swap.blk; have hr3 := h3.bring3.blk; have h4 := Lib.hid (h3.bring3.setRow cy)) | (refine wpList_load_row rfl 81 _ rfl w.heap.size rfl 81 cy (0, 0) _ hb3 Try.underlying81 rfl hiy ?_) | (refine wpList_store_row rfl 81 _ _ rfl (w.heap.size + 1) cy rfl rfl 81 cz hr3 hiy (by rw [sz, sy]) oy ?_))
    refine bodyPost_ret (results_row_tmp rfl _ _ (w.heap.size + 1) 81 cy _ rfl h4.out.blk Try.underlying81 rfl hiy) rfl ?_
    exact ⟨cy, X, hF.out, rfl, h4.out.drop.swap.drop⟩
  · have hb : (E != 0) = true := by simpa using h0
    simp only [if_neg h0]
    clear h0
    go_enter Try.func62, Try.ntmps62
    go_wp2_with (first | (go_at_call 43; rw [← HZ.out, ← HW1.out]; refine (HF.out).mono ?_; rintro e w2 ⟨rfl, cy, X, hF, sy, oy, hiy, hst, h2⟩; have hF := Lib.hid hF) | (go_at_call 69; refine (HEA.out _ _ _ hst h2).mono ?_; rintro e w3 ⟨rfl, h3⟩; have h3 := h3.newBlk 81 cz; have hb3 := h3.blk; have hr3 := h3.bring4.blk; have h4 := Lib.hid (h3.bring4.setRow cz)) | (rw [← HZ.out]; refine wpList_load_row rfl 81 _ rfl w3.heap.size rfl 81 cz (0, 0) _ hb3 Try.underlying81 rfl hiz ?_) | (refine wpList_store_row rfl 81 _ _ rfl (w.heap.size + 1) cz rfl rfl 81 cz hr3 hiz rfl oz ?_))
    refine bodyPost_ret (results_row_tmp rfl _ _ (w.heap.size + 1) 81 cz _ rfl h4.out.blk Try.underlying81 rfl hiz) rfl ?_
    exact ⟨cy, X, hF.out, rfl, h4.out.drop.drop.swap.drop⟩
end

/-- what Put finds -/
def putRelTQ (x : RelC) (L : List Nat) : Cs × Bool := relTQ (.w [], false) x L
def putRelTE (x : RelC) (L : List Nat) : Int := (putRelTQ x L).1.endE (putRelTQ x L).2

set_option maxRecDepth 100000 in
set_option maxHeartbeats 4000000 in
theorem writeRelT_any (x : RelC) (A : Option Addr) (cap B : Nat) (L : List Nat) (w : World) (hr : RB w B A L) (hB : B ≤ w.heap.size) (hl : L.length ≤ 140737488351232) :
    Calls Try.prog 42 #[.agg #[.bool x.lv, .int .i64 x.fr, .int .i64 x.to, .int .i64 x.fp, .int .i64 x.tp, .int .i64 x.fn, .int .i64 x.tn, .int .i64 x.ty, .int .i64 x.pr, .slice A L.length cap], .func (.func 43) #[] #[]] w fun e w' => ∃ v, e = .returned (.tuple #[v, .int .i64 (putRelTE x L)]) ∧ OB w' w.heap.size 5 v (if putRelTE x L = 0 then (putRelTQ x L).1.bytes else []) ∧ Below w.heap.size w w' := by
  have HC := fun (w1 : World) (c : Nat) (l' : List Ass) (hl' : Stable (Sep l')) (h1 : St Zf (CoA c (.w []) false :: l') w w1) => (codeRelT_any (q := (.w [], false)) h1 hr hB hl (by simp [Cs.len]) (Nat.zero_le _)).mono (fun e w' (hp : ∃ cy X, relTF (.w [], false) x A cap L cy X ∧ e = .returned (.tuple #[if (relTQ (.w [], false) x L).1.endE (relTQ (.w [], false) x L).2 = 0 then .agg cy else .agg #[.bool false, .int .i64 0, .int .i64 0, .int .i64 0, .int .i64 0, .int .i64 0, .int .i64 0, .int .i64 0, .int .i64 0, .slice none 0 0], .int .i64 ((relTQ (.w [], false) x L).1.endE (relTQ (.w [], false) x L).2)]) ∧ St Zf (CoA c (relTQ (.w [], false) x L).1 (relTQ (.w [], false) x L).2 :: X :: l') w w') => (show ∃ cy X, cy.size = 10 ∧ cy.all (·.oneCell') = true ∧ (Try.prog.info? 81).map (·.size) = some cy.size ∧ Stable X ∧ e = .returned (.tuple #[if (relTQ (.w [], false) x L).1.endE (relTQ (.w [], false) x L).2 = 0 then .agg cy else .agg #[.bool false, .int .i64 0, .int .i64 0, .int .i64 0, .int .i64 0, .int .i64 0, .int .i64 0, .int .i64 0, .int .i64 0, .slice none 0 0], .int .i64 ((relTQ (.w [], false) x L).1.endE (relTQ (.w [], false) x L).2)]) ∧ St Zf (CoA c (relTQ (.w [], false) x L).1 (relTQ (.w [], false) x L).2 :: X :: l') w w' from by
    obtain ⟨cy, X, hF, rfl, h⟩ := hp
    obtain ⟨s1, s2, s3⟩ := relTF_size hF
    exact ⟨cy, X, s1, s2, s3, relTF_stab hF, rfl, h⟩))
  obtain ⟨cx, hcx⟩ : ∃ cx : Array Value, cx = #[.bool x.lv, .int .i64 x.fr, .int .i64 x.to, .int .i64 x.fp, .int .i64 x.tp, .int .i64 x.fn, .int .i64 x.tn, .int .i64 x.ty, .int .i64 x.pr, .slice A L.length cap] := ⟨_, rfl⟩
  obtain ⟨cz, hcz⟩ : ∃ cz : Array Value, cz = #[.bool false, .int .i64 0, .int .i64 0, .int .i64 0, .int .i64 0, .int .i64 0, .int .i64 0, .int .i64 0, .int .i64 0, .slice none 0 0] := ⟨_, rfl⟩
  have sx : cx.size = 10 := by rw [hcx]; rfl
  have sz : cz.size = 10 := by rw [hcz]; rfl
  have oz : cz.all (·.oneCell') = true := by rw [hcz, ← Array.all_toList]; rfl
  have hix : (Try.prog.info? 81).map (·.size) = some cx.size := by rw [sx]; kernel_rfl
  have hiz : (Try.prog.info? 81).map (·.size) = some cz.size := by rw [sz]; kernel_rfl
  have hE : (relTQ (.w [], false) x L).1.endE (relTQ (.w [], false) x L).2 = putRelTE x L := rfl
  have hQ : relTQ (.w [], false) x L = putRelTQ x L := rfl
  rw [hE, hQ, ← hcx, ← hcz] at HC
  rw [← hcx]
  have HZ := Lib.hid hcz
  clear hcx hcz
  have h0 := (St.start Zf w).newBlk 81 cx
  have h1 := h0.newCoW
  have e0 : (w.alloc (.cells cx 81)).heap.size = w.heap.size + 1 := by simp
  rw [e0] at h1
  obtain ⟨w1, hw1⟩ : ∃ w1, w1 = (((w.alloc (.cells cx 81)).alloc (.cells #[.slice none 0 0] 124)).alloc (.cells #[.pointer (some ⟨w.heap.size + 1, 0, none⟩), .pointer none, .bool false] 103)) := ⟨_, rfl⟩
  rw [← hw1] at h1
  have hbx := h1.swap.blk
  have HC := Lib.hid (HC w1 _ _ inferInstance h1)
  have HNW := Lib.hid (NewWriter_any (w.alloc (.cells cx 81)))
  have hi : (putRelTQ x L).1.isw = true := by rw [← hQ, relTQ_isw]; rfl
  have hlen : (putRelTQ x L).1.len ≤ 140737488355328 := by have hl0 : (((.w [], false) : Cs × Bool)).1.len = 0 := rfl; have := relTQ_len (.w [], false) x L; rw [hQ, hl0] at this; omega
  obtain ⟨E, hE'⟩ : ∃ E, E = putRelTE x L := ⟨_, rfl⟩
  obtain ⟨q, hq⟩ : ∃ q, q = putRelTQ x L := ⟨_, rfl⟩
  rw [← hE', ← hq] at HC
  rw [← hE', ← hq]
  rw [← hq] at hi hlen
  have HW1 := Lib.hid hw1
  have HI := Lib.hid hi
  have HL := Lib.hid hlen
  have HBX := Lib.hid hbx
  clear h0 h1 hw1 hE hQ hE' hq e0 hi hlen hbx hr hl
  by_cases h0 : E = 0
  · subst h0
    simp only at HC ⊢
    go_enter Try.func42, Try.ntmps42
    go_wp2_with (first | (go_at_call 52; refine (HNW.out).mono ?_; rintro e w2 ⟨rfl, rfl⟩) | (rw [← HW1.out]; refine wpList_load_row rfl 81 _ rfl w.heap.size rfl 81 cx (0, 0) _ HBX.out Try.underlying81 rfl hix ?_) | (go_at_call 62; refine (HC.out).mono ?_; rintro e w3 ⟨cy, X, sy, oy, hiy, hst, rfl, h3⟩; have h4 := h3.newBlk 81 cz; have hr4 := h4.blk; have h5 := h4.setRow cy; obtain ⟨g2, k0, HB⟩ := bytes_co h5.swap HI.out HL.out; have HB := Lib.hid HB; have H4 := Lib.hid h5; clear h3 h4 h5) | (rw [← HZ.out]; refine wpList_store_row rfl 81 _ _ rfl w3.heap.size cy rfl rfl 81 cz hr4 hiy (by rw [sz, sy]) oy ?_) | (go_at_call 54; refine (HB.out).mono ?_; rintro e w5 ⟨v5, rfl, ho5, hb5⟩))
    go_ret2
    have hb4 := H4.out.bel
    exact ⟨v5, rfl, ho5.mono hb4.size, hb4.trans (hb5.mono hb4.size)⟩
  · have hb : (E != 0) = true := by simpa using h0
    simp only [if_neg h0] at HC ⊢
    clear h0
    go_enter Try.func42, Try.ntmps42
    go_wp2_with (first | (go_at_call 52; refine (HNW.out).mono ?_; rintro e w2 ⟨rfl, rfl⟩) | (rw [← HW1.out]; refine wpList_load_row rfl 81 _ rfl w.heap.size rfl 81 cx (0, 0) _ HBX.out Try.underlying81 rfl hix ?_) | (go_at_call 62; refine (HC.out).mono ?_; rintro e w3 ⟨cy, X, sy, oy, hiy, hst, rfl, h3⟩; have h4 := h3.newBlk 81 cz; have hr4 := h4.blk; have h5 := h4.setRow cz; have H4 := Lib.hid h5; clear h3 h4 h5) | (rw [← HZ.out]; refine wpList_store_row rfl 81 _ _ rfl w3.heap.size cz rfl rfl 81 cz hr4 hiz rfl oz ?_))
    go_ret2
    exact ⟨_, rfl, OB.nil _ _ _, H4.out.bel⟩

set_option maxRecDepth 100000 in
set_option maxHeartbeats 1000000 in
theorem PutRelT_any (x : RelC) (A : Option Addr) (cap B : Nat) (L : List Nat) (w : World) (hr : RB w B A L) (hB : B ≤ w.heap.size) (hl : L.length ≤ 140737488351232) :
    Calls Try.prog 20 #[.agg #[.bool x.lv, .int .i64 x.fr, .int .i64 x.to, .int .i64 x.fp, .int .i64 x.tp, .int .i64 x.fn, .int .i64 x.tn, .int .i64 x.ty, .int .i64 x.pr, .slice A L.length cap]] w fun e w' => ∃ v, e = .returned (.tuple #[v, .int .i64 (putRelTE x L)]) ∧ OB w' w.heap.size 5 v (if putRelTE x L = 0 then (putRelTQ x L).1.bytes else []) ∧ Below w.heap.size w w' := by
  have H := fun w1 => writeRelT_any x A cap B L w1
  obtain ⟨cx, hcx⟩ : ∃ cx : Array Value, cx = #[.bool x.lv, .int .i64 x.fr, .int .i64 x.to, .int .i64 x.fp, .int .i64 x.tp, .int .i64 x.fn, .int .i64 x.tn, .int .i64 x.ty, .int .i64 x.pr, .slice A L.length cap] := ⟨_, rfl⟩
  have sx : cx.size = 10 := by rw [hcx]; rfl
  have hix : (Try.prog.info? 45).map (·.size) = some cx.size := by rw [sx]; kernel_rfl
  rw [← hcx] at H ⊢
  have hsz : w.heap.size ≤ (w.alloc (.cells cx 45)).heap.size := by simp
  have H := Lib.hid (H (w.alloc (.cells cx 45)) (hr.alloc hB _) (Nat.le_trans hB hsz) hl)
  obtain ⟨Y, hY⟩ : ∃ Y, Y = (if putRelTE x L = 0 then (putRelTQ x L).1.bytes else []) := ⟨_, rfl⟩
  rw [← hY] at H ⊢
  have hbx := heap_alloc_new w (.cells cx 45)
  have HBX := Lib.hid hbx
  clear hY hcx hbx hr hsz hl
  go_enter Try.func20, Try.ntmps20
  go_wp2_with (first | (go_at_call 42; refine (H.out).mono ?_; rintro e w2 ⟨v, rfl, ho, hb⟩) | (refine wpList_load_row rfl 45 _ rfl w.heap.size rfl 45 cx (0, 0) _ HBX.out Try.underlying45 rfl hix ?_))
  go_ret2
  exact ⟨v, rfl, ho.mono (base' := w.heap.size) (by simp), ((Below.refl _ _).alloc (Nat.le_refl _) _).trans (hb.mono (by simp))⟩
end Go.Proofs.Ytmiiogailnjfpaa
