/- The run that the document fixes, of graphs. -/
import Derived.Test.YthnaipgdjbaebaaGreatGrCanonB
import Derived.Test.YthnaipgdjbaebaaGreatGrCheck
import Derived.Test.YthnaipgdjbaebaaGreatGrSame
import Derived.IntWalk
namespace Go.Proofs.YthnaipgdjbaebaaGreat
open Go.RowKit Go.Maps
set_option linter.unusedVariables false

def tT : ByteArray := ⟨#[84]⟩
def gv0 : Gv := ⟨[⟨0, [], []⟩], [⟨5, tT, 0, 7, []⟩]⟩
theorem gcheck0 : gcheck gv0 = (65, 1) := by
  have h1 : (cnodes (-1) 0 gv0.nodes).1 = 0 := by decide
  have h2 : crels gv0.nodes (-1) 0 gv0.rels = (65, 0) := by decide
  have h3 : ((gv0.nodes.length : Int) + 0) = 1 := by decide
  unfold gcheck
  rw [if_pos h1, h2, if_neg (by decide)]
  simp only [h3]
  have h4 : wrap64 1 = 1 := by unfold wrap64; omega
  rw [h4]
theorem touch0 : (touchIds gv0.rels 7).length = 1 := by decide
theorem good0 : goodN tT = true := by decide
theorem types0 : (strKeys (nameSet (typesOf gv0.rels))).length = 1 := by decide

set_option maxRecDepth 100000 in
set_option maxHeartbeats 2000000 in
theorem speaks6_any (w : World) : Calls Tryz.prog 15 #[] w fun e w' => e = .returned (.bool true) ∧ Below w.heap.size w w' := by
  obtain ⟨N, hN⟩ : ∃ n, n = w.heap.size := ⟨_, rfl⟩
  obtain ⟨W, hW⟩ : ∃ x, x = ((w.alloc (.cells #[.int .i64 0, .slice none 0 0, .slice none 0 0] 40)).alloc (.cells #[.int .i64 5, .string tT, .int .i64 0, .int .i64 7, .slice none 0 0] 47)).alloc (.cells #[.slice (some ⟨N, 0, none⟩) 1 1, .slice (some ⟨N + 1, 0, none⟩) 1 1] 27) := ⟨_, rfl⟩
  have hbw : Below w.heap.size w W := by rw [hW]; exact (((Below.refl _ _).alloc (Nat.le_refl _) _).alloc (by simp) _).alloc (by simp; omega) _
  have hWs : W.heap.size = N + 3 := by rw [hW, hN]; simp
  have BN : Blk W N 40 #[.int .i64 0, .slice none 0 0, .slice none 0 0] := by rw [hW, hN]; exact ((Blk.new _ _ _).alloc _).alloc _
  have BR : Blk W (N + 1) 47 #[.int .i64 5, .string tT, .int .i64 0, .int .i64 7, .slice none 0 0] := by
    rw [hW, hN]
    refine Blk.alloc ?_ _
    have := Blk.new (w.alloc (.cells #[.int .i64 0, .slice none 0 0, .slice none 0 0] 40)) 47 #[.int .i64 5, .string tT, .int .i64 0, .int .i64 7, .slice none 0 0]
    simpa using this
  have BG : Blk W (N + 2) 27 #[.slice (some ⟨N, 0, none⟩) 1 1, .slice (some ⟨N + 1, 0, none⟩) 1 1] := by
    rw [hW, hN]
    have := Blk.new ((w.alloc (.cells #[.int .i64 0, .slice none 0 0, .slice none 0 0] 40)).alloc (.cells #[.int .i64 5, .string tT, .int .i64 0, .int .i64 7, .slice none 0 0] 47)) 27 #[.slice (some ⟨w.heap.size, 0, none⟩) 1 1, .slice (some ⟨w.heap.size + 1, 0, none⟩) 1 1]
    simpa using this
  have hG : GR W W.heap.size gv0 (some ⟨N, 0, none⟩) (some ⟨N + 1, 0, none⟩) := by
    refine ⟨?_, ?_, by decide, by decide⟩
    · intro k x hk
      have hk0 : k = 0 := by have := (List.getElem?_eq_some_iff.1 hk).1; simp [gv0] at this; omega
      subst hk0
      simp only [gv0, List.getElem?_cons_zero, Option.some.injEq] at hk
      subst hk
      refine ⟨N, 0, rfl, BN.lt, none, 0, none, 0, ?_, RL.empty _ _ _ _, Rows.nil _ _ _ _ _, ⟨by decide, by decide⟩, by decide, by decide, by simp⟩
      intro i u hu
      rw [BN.cell, Nat.zero_mul, Nat.add_zero, Nat.zero_add]
      exact hu
    · intro k x hk
      have hk0 : k = 0 := by have := (List.getElem?_eq_some_iff.1 hk).1; simp [gv0] at this; omega
      subst hk0
      simp only [gv0, List.getElem?_cons_zero, Option.some.injEq] at hk
      subst hk
      refine ⟨N + 1, 0, rfl, BR.lt, none, 0, ?_, Rows.nil _ _ _ _ _, ⟨by decide, by decide⟩, ⟨by decide, by decide⟩, ⟨by decide, by decide⟩, by decide, by decide⟩
      intro i u hu
      rw [BR.cell, Nat.zero_mul, Nat.add_zero, Nat.zero_add]
      exact hu
  have HC : Hid (∀ w', Below W.heap.size W w' → Calls Tryz.prog 19 #[.agg #[.slice (some ⟨N, 0, none⟩) 1 1, .slice (some ⟨N + 1, 0, none⟩) 1 1]] w' fun e w'' => e = .returned (.tuple #[.int .i64 65, .int .i64 1]) ∧ Below W.heap.size W w'') := Lib.hid fun w' hb => by
    have h := gCheck_any gv0 _ _ 1 1 W.heap.size w' (hG.below hb) hb.size (fun x hx => by simp [gv0] at hx; subst hx; exact ⟨by decide, by decide⟩)
    rw [gcheck0] at h
    exact h.mono fun e w'' ⟨h1, h2⟩ => ⟨h1, hb.trans (h2.mono hb.size)⟩
  have HD : Hid (∀ w', Below W.heap.size W w' → Calls Tryz.prog 25 #[.agg #[.slice (some ⟨N, 0, none⟩) 1 1, .slice (some ⟨N + 1, 0, none⟩) 1 1], .int .i64 7] w' fun e w'' => e = .returned (.int .i64 1) ∧ Below W.heap.size W w'') := Lib.hid fun w' hb => by
    have h := gDegree_any (some ⟨N, 0, none⟩) _ 1 1 1 W.heap.size gv0.rels 7 w' (hG.below hb).2.1 hb.size (by decide) (by decide) ⟨by decide, by decide⟩
    rw [touch0] at h
    exact h.mono fun e w'' ⟨h1, h2⟩ => ⟨h1, hb.trans (h2.mono hb.size)⟩
  have HS : Hid (∀ w', Below W.heap.size W w' → Calls Tryz.prog 24 #[.agg #[.slice (some ⟨N, 0, none⟩) 1 1, .slice (some ⟨N + 1, 0, none⟩) 1 1], .agg #[.slice (some ⟨N, 0, none⟩) 1 1, .slice (some ⟨N + 1, 0, none⟩) 1 1]] w' fun e w'' => e = .returned (.bool true) ∧ Below W.heap.size W w'') := Lib.hid fun w' hb => by
    have h := gSame_any gv0 gv0 _ _ 1 1 _ _ 1 1 W.heap.size w' (hG.below hb) (hG.below hb) hb.size
    rw [sameG_self] at h
    exact h.mono fun e w'' ⟨h1, h2⟩ => ⟨h1, hb.trans (h2.mono hb.size)⟩
  have HN : Hid (∀ w', Below W.heap.size W w' → Calls Tryz.prog 28 #[.agg #[.slice (some ⟨N, 0, none⟩) 1 1, .slice (some ⟨N + 1, 0, none⟩) 1 1], .int .i64 2] w' fun e w'' => ∃ A c, e = .returned (.slice A 1 c) ∧ Below W.heap.size W w'') := Lib.hid fun w' hb => by
    have hb2 : Below W.heap.size w' (w'.alloc (.cells #[.slice (some ⟨N, 0, none⟩) 1 1, .slice (some ⟨N + 1, 0, none⟩) 1 1] 27)) := (Below.refl _ _).alloc hb.size _
    have h := gNames_of 2 (typesOf gv0.rels) (some ⟨N, 0, none⟩) (some ⟨N + 1, 0, none⟩) 1 1 1 1 w' (by decide)
      (names2_any _ _ 1 1 1 W.heap.size gv0.rels _ (RelsR.below (hG.below hb).2.1 hb2) (by have := hb2.size; exact Nat.le_trans hb.size (by simp)) (by decide))
    refine h.mono fun e w'' ⟨v, ss, h1, h2, h3, h4, h5⟩ => ?_
    have hl : ss.length = 1 := h2.length_eq.trans types0
    obtain ⟨-, ⟨-, h0⟩ | ⟨g', cap, cur, hv, -⟩⟩ := h3
    · omega
    · rw [hl] at hv
      exact ⟨_, _, by rw [h1, hv], hb.trans (h5.mono hb.size)⟩
  have HK : Hid (∀ w', Below W.heap.size W w' → Calls Tryz.prog 22 #[.agg #[.slice (some ⟨N, 0, none⟩) 1 1, .slice (some ⟨N + 1, 0, none⟩) 1 1]] w' fun e w'' => ∃ A c A' c', e = .returned (.agg #[.slice A 1 c, .slice A' 1 c']) ∧ Below W.heap.size W w'') := Lib.hid fun w' hb => by
    have h := gCanon_one 0 5 0 7 tT N 1 (N + 1) 1 w' (BN.below hb BN.lt) (BR.below hb BR.lt)
    exact h.mono fun e w'' ⟨A, c, A', c', h1, h2⟩ => ⟨A, c, A', c', h1, hb.trans (h2.mono hb.size)⟩
  have HF : Hid (∀ w', Below W.heap.size W w' → w'.cell? ⟨N + 2, 0, none⟩ = some (.slice (some ⟨N, 0, none⟩) 1 1) ∧ w'.cell? ⟨N + 2, 1, none⟩ = some (.slice (some ⟨N + 1, 0, none⟩) 1 1)) := Lib.hid fun w' hb => by
    have b := BG.below hb BG.lt
    exact ⟨by rw [b.cell]; rfl, by rw [b.cell]; rfl⟩
  have HT : Hid (∀ w', Calls Tryz.prog 16 #[.string ⟨#[84]⟩] w' fun e w'' => e = .returned (.bool true) ∧ w' = w'') := Lib.hid fun w' => by
    have h := GoodName_any tT w' (by decide)
    rw [good0] at h
    exact h
  have HW := Lib.hid hW
  unfold tT at HW
  have HB := Lib.hid hbw
  obtain ⟨j0, j1⟩ := HF.out W (Below.refl _ _)
  clear hW BN BR BG hG hbw
  subst hN
  go_enter Tryz.func15, Tryz.ntmps15
  go_wp2_with fail
  rw [← HW.out]
  refine (HC.out _ (Below.refl _ _)).mono ?_
  rintro e w1 ⟨rfl, h1⟩
  clear j0 j1
  obtain ⟨j0, j1⟩ := HF.out w1 h1
  go_wp2_with fail
  refine (HD.out _ h1).mono ?_
  rintro e w2 ⟨rfl, h2⟩
  clear j0 j1
  obtain ⟨j0, j1⟩ := HF.out w2 h2
  go_wp2_with fail
  refine (HS.out _ h2).mono ?_
  rintro e w3 ⟨rfl, h3⟩
  clear j0 j1
  obtain ⟨j0, j1⟩ := HF.out w3 h3
  go_wp2_with fail
  refine (HT.out _).mono ?_
  rintro e w4 ⟨rfl, rfl⟩
  go_wp2_with fail
  refine (HN.out _ h3).mono ?_
  rintro e w5 ⟨A5, c5, rfl, h5⟩
  clear j0 j1
  obtain ⟨j0, j1⟩ := HF.out w5 h5
  go_wp2_with fail
  refine (HK.out _ h5).mono ?_
  rintro e w6 ⟨A6, c6, A7, c7, rfl, h6⟩
  have hend := HB.out.trans (h6.mono (by omega))
  clear j0 j1
  have hfd : ∀ w : World, (Instr.field 27 (.agg #[.slice A6 1 c6, .slice A7 1 c7]) 1).run Tryz.prog w = .ok (.slice A7 1 c7) w := fun _ => by kernel_rfl
  go_wp2
  go_ret
  exact ⟨rfl, hend⟩

end Go.Proofs.YthnaipgdjbaebaaGreat
