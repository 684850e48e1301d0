/- cell: Parse. -/
import Derived.Test.YthfoffcfbfmajaaGreatDoorCeRead2
namespace Go.Proofs.YthfoffcfbfmajaaGreatDoor
open Go.RowKit
set_option linter.unusedVariables false

theorem box0 (w : World) : St Zf [BlkA w.heap.size 25 #[.int .i64 0, .int .i64 0, .string ⟨#[]⟩, .slice none 0 0, .slice none 0 0]] w (w.alloc (.cells #[.int .i64 0, .int .i64 0, .string ⟨#[]⟩, .slice none 0 0, .slice none 0 0] 25)) :=
  (St.start Zf w).newBlk 25 _
theorem NewP.nought {E : Int} {w w' : World} {L0 : List Ass} (h : St Zf L0 w w') : NewP (noneV, E) w (.returned (.tuple #[.agg #[.int .i64 0, .int .i64 0, .string ⟨#[]⟩, .slice none 0 0, .slice none 0 0], .int .i64 E])) w' :=
  ⟨none, 0, none, 0, rfl, St.nilOl (l := [_]) (St.nilOl (l := []) h.none_of svl 9) ivl 2⟩
/-- what reads of the first two objects is a value -/
theorem vr_of {w0 w : World} {l : List Ass} {v : Vv} {A A' : Option Addr} {c c' : Nat} (h : St Zf (OlA ivl 2 (.slice A v.ns.length c) v.ns :: OlA svl 9 (.slice A' v.ts.length c') v.ts :: l) w0 w) (hv : Vok v) : VR w w.heap.size v (vagg v A c A' c') :=
  ⟨A, c, A', c', rfl, h.ol.reads.2.1, h.swap.ol.reads.2.1, hv⟩
set_option maxRecDepth 100000 in
set_option maxHeartbeats 1000000 in
theorem parse_miss (l : Bs) (w : World) (hW : CeW w) (hl : l.length ≤ 1073741824) (hc : cutK l = (0, [], 220)) : Calls Tryz.prog 14 #[.string (mkS l)] w (NewP (parseV l) w) := by
  have HB := Lib.hid (box0 w)
  have HC := Lib.hid (cutKind_any (mkS l) _ (hW.below HB.out.bel (Nat.le_refl _)).beg)
  unfold Cut3 at HC
  rw [lS_mk, hc] at HC
  rw [parseV_miss hc]
  generalize mkS l = S at HC ⊢
  clear hW hl hc
  obtain ⟨N, hN⟩ : ∃ N, N = w.heap.size := ⟨_, rfl⟩
  go_enter Tryz.func14, Tryz.ntmps14
  go_wp2_with fail
  rw [← hN] at HB ⊢
  refine HC.out.mono ?_
  rintro e w1 ⟨rfl, hb1⟩
  have H1 := Lib.hid (HB.out.below hb1)
  obtain ⟨⟨d0, d1, d2, d3, d4⟩, g0, l1⟩ := blk_facts H1.out
  have G0 := g0 0
  have G1 := g0 1
  have G2 := g0 2
  have G3 := g0 3
  have G4 := g0 4
  clear hb1 hN HB HC
  go_wp2_with fail
  have H3 := ((((H1.out.setBlk 0 (.int .i64 0)).setBlk 1 (.int .i64 0)).setBlk 2 (.string ⟨#[]⟩)).setBlk 3 (.slice none 0 0)).setBlk 4 (.slice none 0 0)
  simp only [List.setIfInBounds_toArray, List.set_cons_zero, List.set_cons_succ] at H3
  refine bodyPost_ret (results_agg_tmp rfl _ _ N 25 _ _ rfl H3.blk Tryz.underlying25 rfl (by kernel_rfl)) rfl ?_
  exact NewP.nought H3
set_option maxRecDepth 100000 in
set_option maxHeartbeats 1000000 in
theorem parse_hit (k : Int) (r l : Bs) (w : World) (hW : CeW w) (hl : l.length ≤ 1073741824) (hk : 1 ≤ k ∧ k ≤ 8) (he : l = begB k ++ r) (hc : cutK l = (k, r, 0)) : Calls Tryz.prog 14 #[.string (mkS l)] w (NewP (parseV l) w) := by
  have HB := Lib.hid (box0 w)
  have hW1 := hW.below HB.out.bel (Nat.le_refl _)
  have HC := Lib.hid (cutKind_any (mkS l) _ hW1.beg)
  unfold Cut3 at HC
  rw [lS_mk, hc] at HC
  have hrl : r.length ≤ 1073741824 := by rw [he, List.length_append] at hl; omega
  rw [parseV_at hc]
  have HR : Hid (∀ w', Below w.heap.size w w' → Calls Tryz.prog 22 #[.int .i64 k, .string (mkS r)] w' (NewP (readV k r) w')) := Lib.hid fun w' hb => read_any hk r w' (hW.below hb (Nat.le_refl _)) hrl
  have hok := readV_ok hk r hrl
  generalize mkS l = S at HC ⊢
  generalize mkS r = R at HC HR
  obtain ⟨v, hv⟩ : ∃ v, v = (readV k r).1 := ⟨_, rfl⟩
  obtain ⟨E, hE⟩ : ∃ E, E = (readV k r).2 := ⟨_, rfl⟩
  have hp : readV k r = (v, E) := by rw [hv, hE]
  rw [hp] at HR hok ⊢
  have HOK := Lib.hid hok
  unfold NewP at HR
  simp only at HR
  clear hW hl hc he hrl hv hE hp hok hW1
  obtain ⟨N, hN⟩ : ∃ N, N = w.heap.size := ⟨_, rfl⟩
  have HBB := Lib.hid HB.out.bel
  by_cases hE0 : E = 0
  · subst hE0
    rw [if_pos rfl]
    have HCK := Lib.hid fun x B w' h1 h2 => Check_any v x B w' h1 h2
    obtain ⟨C, hC⟩ : ∃ C, C = chk v := ⟨_, rfl⟩
    rw [← hC] at HCK ⊢
    clear hC
    obtain ⟨vk, vn, vs, vns, vts⟩ := v
    unfold vagg at HR
    simp only at HR
    by_cases hC0 : C = 0
    · subst hC0
      rw [if_pos rfl]
      go_enter Tryz.func14, Tryz.ntmps14
      go_wp2_with fail
      rw [← hN] at HB ⊢
      refine HC.out.mono ?_
      rintro e w1 ⟨rfl, hb1⟩
      have H1 := Lib.hid (HB.out.below hb1)
      have HR1 := Lib.hid (HR.out w1 H1.out.bel)
      clear hb1 HB HC HR HBB hN
      go_wp2_with fail
      refine HR1.out.mono ?_
      rintro e w2 ⟨A, c, A', c', rfl, h2⟩
      have H2' := St.addStM H1.out h2
      simp only [List.cons_append, List.nil_append] at H2'
      have H2 := Lib.hid H2'
      clear H2'
      have HV := Lib.hid (vr_of (v := ⟨vk, vn, vs, vns, vts⟩) h2 HOK.out)
      unfold vagg at HV
      clear h2 H1 HR1
      go_wp2_with fail
      have H3 := Lib.hid (H2.out.newBlk 25 #[.int .i64 vk, .int .i64 vn, .string vs, .slice A vns.length c, .slice A' vts.length c'])
      have HCK2 := Lib.hid (HCK.out _ _ _ (HV.out.alloc (Nat.le_refl _) (.cells #[.int .i64 vk, .int .i64 vn, .string vs, .slice A vns.length c, .slice A' vts.length c'] 25)) (by rw [World.size_alloc]; exact Nat.le_succ _))
      clear HCK HV H2
      refine HCK2.out.mono ?_
      rintro e w3 ⟨rfl, hb3⟩
      have H4 := Lib.hid (H3.out.below hb3)
      clear hb3 H3 HCK2
      obtain ⟨⟨c0, c1, c2, c3, c4⟩, -, -⟩ := blk_facts H4.out
      obtain ⟨⟨d0, d1, d2, d3, d4⟩, g0, l1⟩ := blk_facts H4.out.bring3
      have G0 := g0 0
      have G1 := g0 1
      have G2 := g0 2
      have G3 := g0 3
      have G4 := g0 4
      go_wp2_with fail
      have H5 := ((((H4.out.bring3.setBlk 0 (.int .i64 vk)).setBlk 1 (.int .i64 vn)).setBlk 2 (.string vs)).setBlk 3 (.slice A vns.length c)).setBlk 4 (.slice A' vts.length c')
      simp only [List.setIfInBounds_toArray, List.set_cons_zero, List.set_cons_succ] at H5
      refine bodyPost_ret (results_agg_tmp rfl _ _ N 25 _ _ rfl H5.blk Tryz.underlying25 rfl (by kernel_rfl)) rfl ?_
      exact ⟨A, c, A', c', rfl, H5.drop.drop⟩
    · have hne : (C != 0) = true := by simpa using hC0
      rw [if_neg hC0]
      clear hC0
      go_enter Tryz.func14, Tryz.ntmps14
      go_wp2_with fail
      rw [← hN] at HB ⊢
      refine HC.out.mono ?_
      rintro e w1 ⟨rfl, hb1⟩
      have H1 := Lib.hid (HB.out.below hb1)
      have HR1 := Lib.hid (HR.out w1 H1.out.bel)
      clear hb1 HB HC HR HBB hN
      go_wp2_with fail
      refine HR1.out.mono ?_
      rintro e w2 ⟨A, c, A', c', rfl, h2⟩
      have H2' := St.addStM H1.out h2
      simp only [List.cons_append, List.nil_append] at H2'
      have H2 := Lib.hid H2'
      clear H2'
      have HV := Lib.hid (vr_of (v := ⟨vk, vn, vs, vns, vts⟩) h2 HOK.out)
      unfold vagg at HV
      clear h2 H1 HR1
      go_wp2_with fail
      have H3 := Lib.hid (H2.out.newBlk 25 #[.int .i64 vk, .int .i64 vn, .string vs, .slice A vns.length c, .slice A' vts.length c'])
      have HCK2 := Lib.hid (HCK.out _ _ _ (HV.out.alloc (Nat.le_refl _) (.cells #[.int .i64 vk, .int .i64 vn, .string vs, .slice A vns.length c, .slice A' vts.length c'] 25)) (by rw [World.size_alloc]; exact Nat.le_succ _))
      clear HCK HV H2
      refine HCK2.out.mono ?_
      rintro e w3 ⟨rfl, hb3⟩
      have H4 := Lib.hid (H3.out.below hb3)
      clear hb3 H3 HCK2
      obtain ⟨⟨c0, c1, c2, c3, c4⟩, -, -⟩ := blk_facts H4.out
      obtain ⟨⟨d0, d1, d2, d3, d4⟩, g0, l1⟩ := blk_facts H4.out.bring3
      have G0 := g0 0
      have G1 := g0 1
      have G2 := g0 2
      have G3 := g0 3
      have G4 := g0 4
      go_wp2_with fail
      have H5 := ((((H4.out.bring3.setBlk 0 (.int .i64 0)).setBlk 1 (.int .i64 0)).setBlk 2 (.string ⟨#[]⟩)).setBlk 3 (.slice none 0 0)).setBlk 4 (.slice none 0 0)
      simp only [List.setIfInBounds_toArray, List.set_cons_zero, List.set_cons_succ] at H5
      refine bodyPost_ret (results_agg_tmp rfl _ _ N 25 _ _ rfl H5.blk Tryz.underlying25 rfl (by kernel_rfl)) rfl ?_
      exact NewP.nought H5
  · have hne : (E != 0) = true := by simpa using hE0
    rw [if_neg hE0]
    obtain ⟨vk, vn, vs, vns, vts⟩ := v
    unfold vagg at HR
    simp only at HR
    clear hE0
    go_enter Tryz.func14, Tryz.ntmps14
    go_wp2_with fail
    rw [← hN] at HB ⊢
    refine HC.out.mono ?_
    rintro e w1 ⟨rfl, hb1⟩
    have H1 := Lib.hid (HB.out.below hb1)
    have HR1 := Lib.hid (HR.out w1 H1.out.bel)
    clear hb1 HB HC HR HBB hN
    go_wp2_with fail
    refine HR1.out.mono ?_
    rintro e w2 ⟨A, c, A', c', rfl, h2⟩
    have H2' := St.addStM H1.out h2
    simp only [List.cons_append, List.nil_append] at H2'
    have H2 := Lib.hid H2'.bring2
    clear H2'
    obtain ⟨⟨d0, d1, d2, d3, d4⟩, g0, l1⟩ := blk_facts H2.out
    have G0 := g0 0
    have G1 := g0 1
    have G2 := g0 2
    have G3 := g0 3
    have G4 := g0 4
    clear h2 H1 HR1
    go_wp2_with fail
    have H3 := ((((H2.out.setBlk 0 (.int .i64 0)).setBlk 1 (.int .i64 0)).setBlk 2 (.string ⟨#[]⟩)).setBlk 3 (.slice none 0 0)).setBlk 4 (.slice none 0 0)
    simp only [List.setIfInBounds_toArray, List.set_cons_zero, List.set_cons_succ] at H3
    have H4 := H3.alloc (.cells #[.int .i64 vk, .int .i64 vn, .string vs, .slice A vns.length c, .slice A' vts.length c'] 25)
    refine bodyPost_ret (results_agg_tmp rfl _ _ N 25 _ _ rfl H4.blk Tryz.underlying25 rfl (by kernel_rfl)) rfl ?_
    exact NewP.nought H4
theorem Parse_any (l : Bs) (w : World) (hW : CeW w) (hl : l.length ≤ 1073741824) : Calls Tryz.prog 14 #[.string (mkS l)] w (NewP (parseV l) w) := by
  rcases cutK_cases l with ⟨k, r, hk, he, hc⟩ | ⟨-, hc⟩
  · exact parse_hit k r l w hW hl hk he hc
  · exact parse_miss l w hW hl hc
end Go.Proofs.YthfoffcfbfmajaaGreatDoor
