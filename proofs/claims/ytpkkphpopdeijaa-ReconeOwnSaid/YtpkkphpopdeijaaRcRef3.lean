/- The document's PutRel. -/
import Derived.Test.YtpkkphpopdeijaaRcRef2
namespace Go.Proofs.Ytpkkphpopdeijaa
open Go.RowKit
set_option linter.unusedVariables false

theorem St.own {l : List Ass} {w0 w : World} {e : TypeId} {v : Value} {bs : List Nat} (h : St Zf (ObA e v bs :: l) w0 w) : OB w w0.heap.size e v bs := by
  obtain ⟨_, ⟨G, H, ⟨ho, rfl⟩, h2, h3, rfl⟩, h4, hf⟩ := h
  refine ⟨ho.1, ?_⟩
  have h := ho.2
  have hs := h4.size
  refine ⟨h.1, ?_⟩
  rcases h.2 with h0 | ⟨g, cap, cur, hv, hb, hh, h1, h2, h3, h5⟩
  · exact .inl h0
  · refine .inr ⟨g, cap, cur, hv, ?_, hh, h1, h2, h3, h5⟩
    rcases hf g (.inl (by unfold rfp; rw [hv]; rfl)) with h | h
    · exact h.elim
    · exact h

def refRelOk (x : RelC) : Bool := linkR x && inR 0 200 x.ty && inR (-1) 65536 x.pr
def refRelB (x : RelC) : List Nat := linkB x ++ ptrB x.pr
theorem linkB_short (x : RelC) : (linkB x).length ≤ 100 := by
  have q0 := putNum_short 4 (uIn x.fr)
  have q1 := putNum_short 4 (uIn x.to)
  have q2 := putNum_short 2 (uIn x.ty)
  have q3 := ptrB_short x.fp
  have q4 := ptrB_short x.fn
  have q5 := ptrB_short x.tp
  have q6 := ptrB_short x.tn
  unfold linkB
  simp only [List.length_append]
  omega
/-- what a Put of the document leaves -/
def RefPut (ok : Bool) (bs : List Nat) (w : World) (e : Ending) (w' : World) : Prop :=
  ∃ v, e = .returned (.tuple #[v, .int .i64 (if ok = true then 0 else 41)]) ∧ OB w' w.heap.size 5 v (if ok = true then bs else []) ∧ Below w.heap.size w w'
theorem refPut_no {w w1 : World} (hb : Below w.heap.size w w1) (N : Nat) (hN : w1.heap.size = N) : OB (w1.alloc (.cells #[] 5)) w.heap.size 5 (.slice (some ⟨N, 0, none⟩) 0 0) [] ∧ Below w.heap.size w (w1.alloc (.cells #[] 5)) := by
  subst hN
  exact ⟨⟨IsBytes.nil, World.ownsRow_lit w1 #[] 0 hb.size (Nat.zero_le _) rfl⟩, hb.alloc hb.size _⟩

set_option maxRecDepth 100000 in
set_option maxHeartbeats 4000000 in
theorem refPutRel_any (x : RelC) (w : World) : Calls Try.prog 19 #[.agg #[.bool x.lv, .int .i64 x.fr, .int .i64 x.to, .int .i64 x.fp, .int .i64 x.tp, .int .i64 x.fn, .int .i64 x.tn, .int .i64 x.ty, .int .i64 x.pr]] w (RefPut (refRelOk x) (refRelB x) w) := by
  have h0 := (St.start Zf w).newBlk 44 #[.bool x.lv, .int .i64 x.fr, .int .i64 x.to, .int .i64 x.fp, .int .i64 x.tp, .int .i64 x.fn, .int .i64 x.tn, .int .i64 x.ty, .int .i64 x.pr]
  obtain ⟨wo, hwo⟩ : ∃ wo, wo = w.alloc (.cells #[.bool x.lv, .int .i64 x.fr, .int .i64 x.to, .int .i64 x.fp, .int .i64 x.tp, .int .i64 x.fn, .int .i64 x.tn, .int .i64 x.ty, .int .i64 x.pr] 44) := ⟨_, rfl⟩
  rw [← hwo] at h0
  have HF : Hid (∀ (l : List Ass) (W : World), St Zf (BlkA w.heap.size 44 #[.bool x.lv, .int .i64 x.fr, .int .i64 x.to, .int .i64 x.fp, .int .i64 x.tp, .int .i64 x.fn, .int .i64 x.tn, .int .i64 x.ty, .int .i64 x.pr] :: l) w W → W.cell? ⟨w.heap.size, 0, none⟩ = some (.bool x.lv) ∧ W.cell? ⟨w.heap.size, 1, none⟩ = some (.int .i64 x.fr) ∧ W.cell? ⟨w.heap.size, 2, none⟩ = some (.int .i64 x.to) ∧ W.cell? ⟨w.heap.size, 3, none⟩ = some (.int .i64 x.fp) ∧ W.cell? ⟨w.heap.size, 4, none⟩ = some (.int .i64 x.tp) ∧ W.cell? ⟨w.heap.size, 5, none⟩ = some (.int .i64 x.fn) ∧ W.cell? ⟨w.heap.size, 6, none⟩ = some (.int .i64 x.tn) ∧ W.cell? ⟨w.heap.size, 7, none⟩ = some (.int .i64 x.ty) ∧ W.cell? ⟨w.heap.size, 8, none⟩ = some (.int .i64 x.pr)) := Lib.hid fun l W h => by
    have hb := h.blk
    exact ⟨by rw [hb.cell 0]; rfl, by rw [hb.cell 1]; rfl, by rw [hb.cell 2]; rfl, by rw [hb.cell 3]; rfl, by rw [hb.cell 4]; rfl, by rw [hb.cell 5]; rfl, by rw [hb.cell 6]; rfl, by rw [hb.cell 7]; rfl, by rw [hb.cell 8]; rfl⟩
  have HL := Lib.hid (LinkRight_any x wo)
  have hlb := linkB_short x
  have hpb := ptrB_short x.pr
  unfold RefPut refRelOk refRelB
  obtain ⟨b1, hb1⟩ : ∃ b, b = linkR x := ⟨_, rfl⟩
  obtain ⟨b2, hb2⟩ : ∃ b, b = inR 0 200 x.ty := ⟨_, rfl⟩
  obtain ⟨b3, hb3⟩ : ∃ b, b = inR (-1) 65536 x.pr := ⟨_, rfl⟩
  have H2 := fun w1 => Lib.hid (In_any x.ty 0 200 w1)
  have H3 := fun w1 => Lib.hid (In_any x.pr (-1) 65536 w1)
  rw [← hb1] at HL ⊢
  rw [← hb2] at H2 ⊢
  rw [← hb3] at H3 ⊢
  have Hq : Hid ((linkB x).length ≤ 100 ∧ (ptrB x.pr).length ≤ 8) := Lib.hid ⟨hlb, hpb⟩
  obtain ⟨c0, c1, c2, c3, c4, c5, c6, c7, c8⟩ := HF.out _ _ h0
  have Hwo := Lib.hid hwo
  have H0 := Lib.hid h0
  clear hwo hb1 hb2 hb3 hlb hpb h0
  cases b1
  · have e0 : ((false && b2 && b3) = true) = False := by simp
    simp only [e0, if_false]
    go_enter Try.func19, Try.ntmps19
    go_upto_region 1 with fail
    rw [← Hwo.out]
    go_wp2_with (go_at_call 39; refine (HL.out).mono ?_; rintro e w1 ⟨rfl, hbw⟩; have g1 := refPut_no (H0.out.below hbw).bel _ rfl)
    go_ret2
    exact ⟨_, rfl, g1⟩
  · cases b2
    · have e0 : ((true && false && b3) = true) = False := by simp
      simp only [e0, if_false]
      go_enter Try.func19, Try.ntmps19
      go_upto_region 1 with fail
      rw [← Hwo.out]
      go_wp2_with (first | (go_at_call 39; refine (HL.out).mono ?_; rintro e w1 ⟨rfl, hbw⟩; obtain ⟨c0, c1, c2, c3, c4, c5, c6, c7, c8⟩ := HF.out _ _ (H0.out.below hbw); have g1 := refPut_no (H0.out.below hbw).bel _ rfl) | (go_at_call 28; refine ((H2 _).out).mono ?_; rintro e w' ⟨rfl, rfl⟩))
      go_ret2
      exact ⟨_, rfl, g1⟩
    · cases b3
      · have e0 : ((true && true && false) = true) = False := by simp
        simp only [e0, if_false]
        go_enter Try.func19, Try.ntmps19
        go_upto_region 1 with fail
        rw [← Hwo.out]
        go_wp2_with (first | (go_at_call 39; refine (HL.out).mono ?_; rintro e w1 ⟨rfl, hbw⟩; obtain ⟨c0, c1, c2, c3, c4, c5, c6, c7, c8⟩ := HF.out _ _ (H0.out.below hbw); have g1 := refPut_no (H0.out.below hbw).bel _ rfl) | (go_at_call 28; with_reducible refine ((H2 _).out).mono ?_; rintro e w' ⟨rfl, rfl⟩) | (go_at_call 28; with_reducible refine ((H3 _).out).mono ?_; rintro e w' ⟨rfl, rfl⟩))
        go_ret2
        exact ⟨_, rfl, g1⟩
      · have e0 : ((true && true && true) = true) = True := by simp
        simp only [e0, if_true]
        go_enter Try.func19, Try.ntmps19
        go_upto_region 1 with fail
        rw [← Hwo.out]
        go_upto_region 3 with (first | (go_at_call 39; refine (HL.out).mono ?_; rintro e w1 ⟨rfl, hbw⟩; obtain ⟨c0, c1, c2, c3, c4, c5, c6, c7, c8⟩ := HF.out _ _ (H0.out.below hbw); have g1 := Lib.hid (H0.out.below hbw); clear hbw) | (go_at_call 28; with_reducible refine ((H2 _).out).mono ?_; rintro e w' ⟨rfl, rfl⟩) | (go_at_call 28; with_reducible refine ((H3 _).out).mono ?_; rintro e w' ⟨rfl, rfl⟩))
        have g2 := g1.out.drew
        have HLB := Lib.hid (LinkBytes_any x w1.drew)
        go_region_held3 (fun w' => w'.cell? ⟨w.heap.size, 0, none⟩ = some (.bool x.lv) ∧ w'.cell? ⟨w.heap.size, 1, none⟩ = some (.int .i64 x.fr) ∧ w'.cell? ⟨w.heap.size, 2, none⟩ = some (.int .i64 x.to) ∧ w'.cell? ⟨w.heap.size, 3, none⟩ = some (.int .i64 x.fp) ∧ w'.cell? ⟨w.heap.size, 4, none⟩ = some (.int .i64 x.tp) ∧ w'.cell? ⟨w.heap.size, 5, none⟩ = some (.int .i64 x.fn) ∧ w'.cell? ⟨w.heap.size, 6, none⟩ = some (.int .i64 x.tn) ∧ w'.cell? ⟨w.heap.size, 7, none⟩ = some (.int .i64 x.ty) ∧ w'.cell? ⟨w.heap.size, 8, none⟩ = some (.int .i64 x.pr)) (go_keep)
          ((first
            | (go_at_call 40; refine (HLB.out).mono ?_; rintro e w2 ⟨v2, rfl, h2⟩; have h3 := g2.addSt h2; have k2 := HF.out _ _ h3.swap; obtain ⟨_, _, _, _, _, _, _, _, _⟩ := k2)
            | (go_at_call 31; refine (Ptr_any h3 x.pr).mono ?_; rintro e w4 ⟨v4, rfl, h4⟩; have k4 := HF.out _ _ h4.bring2; obtain ⟨_, _, _, _, _, _, _, _, _⟩ := k4)
            | (go_at_call 30; refine (Joined_any h4.swap (by have := Hq.out; omega)).mono ?_; rintro e w5 ⟨v5, rfl, h5⟩; have k5 := HF.out _ _ h5.bring2; obtain ⟨_, _, _, _, _, _, _, _, _⟩ := k5)))
        go_wp2
        go_ret2
        exact ⟨_, rfl, h5.own, h5.bel⟩
end Go.Proofs.Ytpkkphpopdeijaa
