/- cell: CellGrows, texts. -/
import Derived.Test.YthfoffcfbfmajaaGreatDoorCeGrow
namespace Go.Proofs.YthfoffcfbfmajaaGreatDoor
open Go.RowKit
set_option linter.unusedVariables false
set_option linter.unusedSimpArgs false

set_option maxRecDepth 100000 in
set_option maxHeartbeats 4000000 in
theorem walk_texts (w : World) (hW : CeW w) {l : List ByteArray} {A A' : Option Addr} {c c' : Nat} (h1 : RL svl w w.heap.size A l) (h2 : RL ivl w w.heap.size A' []) (hok : Vok ⟨8, 0, ⟨#[]⟩, [], l⟩) (hc : chk ⟨8, 0, ⟨#[]⟩, [], l⟩ = 0) (hl : l.length < 40) (x : ByteArray) (hx1 : x.size ≤ 140737488351232) (more : Int) :
    Calls Tryz.prog 7 #[.agg #[.int .i64 8, .int .i64 0, .string ⟨#[]⟩, .slice A' 0 c', .slice A l.length c], .int .i64 more, .string x] w fun e w' => e = .returned (.bool true) ∧ Below w.heap.size w w' := by
  obtain ⟨O, hO⟩ : ∃ O, O = l ++ [x] := ⟨_, rfl⟩
  have ok1 : Vok ⟨8, 0, ⟨#[]⟩, [], [x]⟩ := ⟨hok.k1, hok.k2, hok.n1, hok.n2, hok.s1, hok.ns1, hok.ns2, fun y hy => by obtain rfl := List.mem_singleton.1 hy; exact hx1, by simp⟩
  have ok2 : Vok ⟨8, 0, ⟨#[]⟩, [], O⟩ := ⟨hok.k1, hok.k2, hok.n1, hok.n2, hok.s1, hok.ns1, hok.ns2, fun y hy => by rw [hO] at hy; rcases List.mem_append.1 hy with h | h; (exact hok.ts1 y h); (obtain rfl := List.mem_singleton.1 h; exact hx1), by show O.length * 16 ≤ _; rw [hO, List.length_append, List.length_singleton]; omega⟩
  obtain ⟨SA, SB, SC, E, e1, e2, e3, e4, e5, e6⟩ := grow_say (v := ⟨8, 0, ⟨#[]⟩, [], l⟩) (V1 := ⟨8, 0, ⟨#[]⟩, [], [x]⟩) (V2 := ⟨8, 0, ⟨#[]⟩, [], O⟩) hc hok ok1 rfl rfl ⟨show (4 : Int) < 8 from by decide, show (8 : Int) ≤ 8 from by decide⟩ (by rw [hO]; exact grow_texts x hc hl) (by rw [hO]; exact print_texts l x) (by show 0 < (formsT ([x].map lS)).length; simp [formsT])
  have h3 := hok
  have HSP : Hid (∀ w', Below w.heap.size w w' → Calls Tryz.prog 9 #[] w' fun e w2 => e = .returned (.bool true) ∧ Below w'.heap.size w' w2) := Lib.hid fun w' hb => speaks22_any w' (hW.below hb (Nat.le_refl _))
  have HV : Hid (∀ w', Below w.heap.size w w' → VR w' w.heap.size ⟨8, 0, ⟨#[]⟩, [], l⟩ (.agg #[.int .i64 8, .int .i64 0, .string ⟨#[]⟩, .slice A' 0 c', .slice A l.length c])) := Lib.hid fun w' hb => VR.below (w := w) ⟨A', c', A, c, rfl, h2, h1, h3⟩ hb
  have HC0 : Hid (∀ w', Below w.heap.size w w' → Calls Tryz.prog 16 #[.agg #[.int .i64 8, .int .i64 0, .string ⟨#[]⟩, .slice A' 0 c', .slice A l.length c]] w' fun e w2 => e = .returned (.int .i64 0) ∧ Below w'.heap.size w' w2) := Lib.hid fun w' hb => by
    have h := refCheck_any _ _ _ w' (HV.out w' hb) hb.size
    rw [hc] at h
    exact h
  have HCO : Hid (∀ w', Below w.heap.size w w' → Calls Tryz.prog 10 #[.agg #[.int .i64 8, .int .i64 0, .string ⟨#[]⟩, .slice A' 0 c', .slice A l.length c]] w' fun e w2 => ∃ D d D' d', e = .returned (.agg #[.int .i64 8, .int .i64 0, .string ⟨#[]⟩, .slice D' 0 d', .slice D l.length d]) ∧ OL svl w2 w'.heap.size 9 (.slice D l.length d) l ∧ Below w'.heap.size w' w2) := Lib.hid fun w' hb => by
    refine (refCopy_own _ _ _ w' (HV.out w' hb) hb.size).mono ?_
    rintro e w2 ⟨D', d', D, d, rfl, o2, o1, hb⟩
    exact ⟨D, d, D', d', rfl, o1, hb⟩
  have HPA : Hid (∀ D d D' d' w', Below w.heap.size w w' → RL svl w' w'.heap.size D l → Calls Tryz.prog 11 #[.agg #[.int .i64 8, .int .i64 0, .string ⟨#[]⟩, .slice D' 0 d', .slice D l.length d]] w' fun e w2 => e = .returned (.tuple #[.string SA, .int .i64 0]) ∧ Below w'.heap.size w' w2) := Lib.hid fun D d D' d' w' hb h => by
    have hv : VR w' w'.heap.size ⟨8, 0, ⟨#[]⟩, [], l⟩ (.agg #[.int .i64 8, .int .i64 0, .string ⟨#[]⟩, .slice D' 0 d', .slice D l.length d]) := ⟨D', d', D, d, rfl, RL.empty _ _ _ _, h, hok⟩
    have hp := Print_any _ _ _ w' (hW.below hb (Nat.le_refl _)) hv (Nat.le_refl _)
    unfold PrPost at hp
    rw [e1] at hp
    simpa only [mk_lS] using hp
  have HPB : Hid (∀ D w', Below w.heap.size w w' → RL svl w' w'.heap.size D [x] → Calls Tryz.prog 11 #[.agg #[.int .i64 8, .int .i64 0, .string ⟨#[]⟩, .slice none 0 0, .slice D 1 1]] w' fun e w2 => e = .returned (.tuple #[.string SB, .int .i64 E]) ∧ Below w'.heap.size w' w2) := Lib.hid fun D w' hb h => by
    have hv : VR w' w'.heap.size ⟨8, 0, ⟨#[]⟩, [], [x]⟩ (.agg #[.int .i64 8, .int .i64 0, .string ⟨#[]⟩, .slice none 0 0, .slice D 1 1]) := ⟨none, 0, D, 1, rfl, RL.empty _ _ _ _, h, ok1⟩
    have hp := Print_any _ _ _ w' (hW.below hb (Nat.le_refl _)) hv (Nat.le_refl _)
    unfold PrPost at hp
    rw [e2] at hp
    simpa only [mk_lS] using hp
  have HC1 : Hid (∀ D w', Below w.heap.size w w' → RL svl w' w'.heap.size D [x] → Calls Tryz.prog 16 #[.agg #[.int .i64 8, .int .i64 0, .string ⟨#[]⟩, .slice none 0 0, .slice D 1 1]] w' fun e w2 => e = .returned (.int .i64 E) ∧ Below w'.heap.size w' w2) := Lib.hid fun D w' hb h => by
    have hv : VR w' w'.heap.size ⟨8, 0, ⟨#[]⟩, [], [x]⟩ (.agg #[.int .i64 8, .int .i64 0, .string ⟨#[]⟩, .slice none 0 0, .slice D 1 1]) := ⟨none, 0, D, 1, rfl, RL.empty _ _ _ _, h, ok1⟩
    have hp := refCheck_any _ _ _ w' hv (Nat.le_refl _)
    rw [e4] at hp
    exact hp
  have HPC : Hid (∀ D d D' d' w', Below w.heap.size w w' → RL svl w' w'.heap.size D O → Calls Tryz.prog 11 #[.agg #[.int .i64 8, .int .i64 0, .string ⟨#[]⟩, .slice D' 0 d', .slice D O.length d]] w' fun e w2 => e = .returned (.tuple #[.string SC, .int .i64 E]) ∧ Below w'.heap.size w' w2) := Lib.hid fun D d D' d' w' hb h => by
    have hv : VR w' w'.heap.size ⟨8, 0, ⟨#[]⟩, [], O⟩ (.agg #[.int .i64 8, .int .i64 0, .string ⟨#[]⟩, .slice D' 0 d', .slice D O.length d]) := ⟨D', d', D, d, rfl, RL.empty _ _ _ _, h, ok2⟩
    have hp := Print_any _ _ _ w' (hW.below hb (Nat.le_refl _)) hv (Nat.le_refl _)
    unfold PrPost at hp
    rw [e3] at hp
    simpa only [mk_lS] using hp
  have HO := Lib.hid hO
  have E5 := Lib.hid e5
  have E6 := Lib.hid e6
  obtain ⟨i0, hi, hz0, hz1, hz2⟩ := info_parts str_info
  have hby : (l.length + 1) * 16 ≤ 140737488355328 := by omega
  have hll : ¬ (40 ≤ (l.length : Int)) := by omega
  have hll' : decide (40 ≤ (l.length : Int)) = false := decide_eq_false hll
  have hlw : IntKind.i64.wrap (l.length : Int) = l.length := by rw [IntKind.wrap_i64]; omega
  clear hc hok ok1 ok2 e1 e2 e3 e4 e5 e6 h1 h2 h3 hO hW HV
  go_enter Tryz.func7, Tryz.ntmps7
  go_wp2_with fail
  obtain ⟨wo, hwo⟩ : ∃ z, z = w.alloc (.cells #[.int .i64 8, .int .i64 0, .string ⟨#[]⟩, .slice A' 0 c', .slice A l.length c] 25) := ⟨_, rfl⟩
  rw [← hwo]
  have HBo0 : Hid (Blk wo w.heap.size 25 #[.int .i64 8, .int .i64 0, .string ⟨#[]⟩, .slice A' 0 c', .slice A l.length c]) := Lib.hid (by rw [hwo]; exact Blk.new _ _ _)
  have HB0 : Hid (Below w.heap.size w wo) := Lib.hid (by rw [hwo]; exact (Below.refl w.heap.size w).alloc (Nat.le_refl _) _)
  clear hwo
  refine (HSP.out wo HB0.out).mono ?_
  rintro e w1 ⟨rfl, b1⟩
  have HB1 := Lib.hid (HB0.out.trans (b1.mono HB0.out.size))
  have HBo1 := Lib.hid (HBo0.out.below b1 HBo0.out.lt)
  obtain ⟨x0, x1, x2, x3, x4⟩ := box_cells HBo1.out
  clear b1 HSP HBo0 HB0
  go_wp2_with fail
  refine (HC0.out w1 HB1.out).mono ?_
  rintro e w2 ⟨rfl, b2⟩
  have HB := Lib.hid (HB1.out.trans (b2.mono HB1.out.size))
  have HBo := Lib.hid (HBo1.out.below b2 HBo1.out.lt)
  clear x0 x1 x2 x3 x4 b2 HB1 HBo1 HC0
  obtain ⟨x0, x1, x2, x3, x4⟩ := box_cells HBo.out
  have HS := Lib.hid (St.start Zf w2).drew
  go_wp2_with fail
  refine wp_region_held_drew (S := (fun w' => w'.cell? ⟨w.heap.size, 0, none⟩ = some (.int .i64 8) ∧ w'.cell? ⟨w.heap.size, 1, none⟩ = some (.int .i64 0) ∧ w'.cell? ⟨w.heap.size, 2, none⟩ = some (.string ⟨#[]⟩) ∧ w'.cell? ⟨w.heap.size, 3, none⟩ = some (.slice A' 0 c') ∧ w'.cell? ⟨w.heap.size, 4, none⟩ = some (.slice A l.length c))) (by kernel_rfl) (by (try dsimp only); first | exact ⟨x0, x1, x2, x3, x4⟩ | go_keep) (fun hHeld => ?_)
  refine wpAnyH_take (i := 0) (v := ?_) rfl (by kernel_rfl) (by kernel_rfl) (by kernel_rfl) (fun _ _ _ h => h) (Or.inl ⟨by rfl, ?_⟩) (by assumption) ?_
  rotate_left
  · (intro w hSw; (try dsimp only at hSw); go_simp; try with_reducible rfl)
  try simp only [Act.put, List.getElem_toArray, List.getElem_cons_zero, List.getElem_cons_succ, List.setIfInBounds_toArray, List.set_cons_zero, List.set_cons_succ]
  refine wpAnyH_take (i := 2) (v := ?_) rfl (by kernel_rfl) (by kernel_rfl) (by kernel_rfl) (fun _ _ _ h => h) (Or.inl ⟨by rfl, ?_⟩) (by assumption) ?_
  rotate_left
  · (intro w hSw; (try dsimp only at hSw); go_simp; try with_reducible rfl)
  try simp only [Act.put, List.getElem_toArray, List.getElem_cons_zero, List.getElem_cons_succ, List.setIfInBounds_toArray, List.set_cons_zero, List.set_cons_succ]
  refine wpAnyH_take (i := 3) (v := ?_) rfl (by kernel_rfl) (by kernel_rfl) (by kernel_rfl) (fun _ _ _ h => h) (Or.inl ⟨by rfl, ?_⟩) (by assumption) ?_
  rotate_left
  · (intro w hSw; (try dsimp only at hSw); go_simp; try with_reducible rfl)
  try simp only [Act.put, List.getElem_toArray, List.getElem_cons_zero, List.getElem_cons_succ, List.setIfInBounds_toArray, List.set_cons_zero, List.set_cons_succ]
  refine wpAnyH_take (i := 4) (v := ?_) rfl (by kernel_rfl) (by kernel_rfl) (by kernel_rfl) (fun _ _ _ h => h) (Or.inl ⟨by rfl, ?_⟩) (by assumption) ?_
  rotate_left
  · (intro w hSw; (try dsimp only at hSw); go_simp; try with_reducible rfl)
  try simp only [Act.put, List.getElem_toArray, List.getElem_cons_zero, List.getElem_cons_succ, List.setIfInBounds_toArray, List.set_cons_zero, List.set_cons_succ]
  refine wpAnyH_ready (rs := [1, 5, 6]) (by kernel_rfl) (by simp) ?_
  refine AllReadyH.cons rfl (fun K hK => ?_) ?_
  · obtain ⟨wq, hwq⟩ : ∃ z, z = worldOf HS := ⟨_, rfl⟩
    unfold worldOf at hwq
    rw [← hwq] at HS ⊢
    clear hwq x0 x1 x2 x3 x4
    obtain ⟨x0, x1, x2, x3, x4⟩ := box_cells (HBo.out.below HS.out.bel HBo.out.lt)
    go_simp
    go_at_call 10
    refine (HCO.out _ (HB.out.trans (HS.out.bel.mono HB.out.size))).mono ?_
    rintro e w3 ⟨D, d, D', d', rfl, ho, hb⟩
    have HS := Lib.hid (HS.out.newOl ho hb)
    clear x0 x1 x2 x3 x4 ho hb
    obtain ⟨x0, x1, x2, x3, x4⟩ := box_cells (HBo.out.below HS.out.bel HBo.out.lt)
    refine hK.out _ _ (by (try dsimp only); first | exact ⟨x0, x1, x2, x3, x4⟩ | go_keep) (fun hHeld => ?_)
    clear hK K
    try simp only [Act.put, List.getElem_toArray, List.getElem_cons_zero, List.getElem_cons_succ, List.setIfInBounds_toArray, List.set_cons_zero, List.set_cons_succ]
    refine wpAnyH_ready (rs := [5, 6]) (by kernel_rfl) (by simp) ?_
    refine AllReadyH.cons rfl (fun K hK => ?_) ?_
    · obtain ⟨wq, hwq⟩ : ∃ z, z = worldOf HS := ⟨_, rfl⟩
      unfold worldOf at hwq
      rw [← hwq] at HS ⊢
      clear hwq x0 x1 x2 x3 x4
      obtain ⟨x0, x1, x2, x3, x4⟩ := box_cells (HBo.out.below HS.out.bel HBo.out.lt)
      go_simp
      have HS := Lib.hid (HS.out.newBlk 25 #[.int .i64 0, .int .i64 0, .string ⟨#[]⟩, .slice none 0 0, .slice none 0 0])
      clear x0 x1 x2 x3 x4
      obtain ⟨x0, x1, x2, x3, x4⟩ := box_cells (HBo.out.below HS.out.bel HBo.out.lt)
      refine hK.out _ _ (by (try dsimp only); first | exact ⟨x0, x1, x2, x3, x4⟩ | go_keep) (fun hHeld => ?_)
      clear hK K
      try simp only [Act.put, List.getElem_toArray, List.getElem_cons_zero, List.getElem_cons_succ, List.setIfInBounds_toArray, List.set_cons_zero, List.set_cons_succ]
      refine wpAnyH_ready (rs := [6]) (by kernel_rfl) (by simp) ?_
      refine AllReadyH.cons rfl (fun K hK => ?_) AllReadyH.nil
      obtain ⟨wq, hwq⟩ : ∃ z, z = worldOf HS := ⟨_, rfl⟩
      unfold worldOf at hwq
      rw [← hwq] at HS ⊢
      clear hwq x0 x1 x2 x3 x4
      obtain ⟨x0, x1, x2, x3, x4⟩ := box_cells (HBo.out.below HS.out.bel HBo.out.lt)
      go_simp
      have HS := Lib.hid (HS.out.newBlk 25 #[.int .i64 0, .int .i64 0, .string ⟨#[]⟩, .slice none 0 0, .slice none 0 0])
      clear x0 x1 x2 x3 x4
      obtain ⟨x0, x1, x2, x3, x4⟩ := box_cells (HBo.out.below HS.out.bel HBo.out.lt)
      refine hK.out _ _ (by (try dsimp only); first | exact ⟨x0, x1, x2, x3, x4⟩ | go_keep) (fun hHeld => ?_)
      clear hK K
      try simp only [Act.put, List.getElem_toArray, List.getElem_cons_zero, List.getElem_cons_succ, List.setIfInBounds_toArray, List.set_cons_zero, List.set_cons_succ]
      refine wpAnyH_ready (rs := [7]) (by kernel_rfl) (by simp) ?_
      refine AllReadyH.cons rfl (fun K hK => ?_) AllReadyH.nil
      have HS := Lib.hid (HS.out.bring2.swap.bring2)
      obtain ⟨wq, hwq⟩ : ∃ z, z = worldOf HS := ⟨_, rfl⟩
      unfold worldOf at hwq
      rw [← hwq] at HS ⊢
      clear hwq x0 x1 x2 x3 x4
      obtain ⟨x0, x1, x2, x3, x4⟩ := box_cells (HBo.out.below HS.out.bel HBo.out.lt)
      obtain ⟨⟨p0, p1, p2, p3, p4⟩, pf, pl⟩ := blk_facts HS.out
      have PF0 := pf 0
      have PF1 := pf 1
      have PF2 := pf 2
      have PF3 := pf 3
      have PF4 := pf 4
      go_simp
      have hq := (((((HS.out.setBlk 0 (.int .i64 8)).setBlk 1 (.int .i64 0)).setBlk 2 (.string ⟨#[]⟩)).setBlk 3 (.slice D' 0 d')).setBlk 4 (.slice D l.length d))
      simp only [List.setIfInBounds_toArray, List.set_cons_zero, List.set_cons_succ] at hq
      have HS := Lib.hid (hq)
      clear x0 x1 x2 x3 x4 p0 p1 p2 p3 p4 pf pl PF0 PF1 PF2 PF3 PF4 hq
      obtain ⟨x0, x1, x2, x3, x4⟩ := box_cells (HBo.out.below HS.out.bel HBo.out.lt)
      refine hK.out _ _ (by (try dsimp only); first | exact ⟨x0, x1, x2, x3, x4⟩ | go_keep) (fun hHeld => ?_)
      clear hK K
      try simp only [Act.put, List.getElem_toArray, List.getElem_cons_zero, List.getElem_cons_succ, List.setIfInBounds_toArray, List.set_cons_zero, List.set_cons_succ]
      refine wpAnyH_ready (rs := [8]) (by kernel_rfl) (by simp) ?_
      refine AllReadyH.cons rfl (fun K hK => ?_) AllReadyH.nil
      have HS := Lib.hid (HS.out.swap)
      obtain ⟨wq, hwq⟩ : ∃ z, z = worldOf HS := ⟨_, rfl⟩
      unfold worldOf at hwq
      rw [← hwq] at HS ⊢
      clear hwq x0 x1 x2 x3 x4
      obtain ⟨x0, x1, x2, x3, x4⟩ := box_cells (HBo.out.below HS.out.bel HBo.out.lt)
      obtain ⟨⟨p0, p1, p2, p3, p4⟩, pf, pl⟩ := blk_facts HS.out
      have PF0 := pf 0
      have PF1 := pf 1
      have PF2 := pf 2
      have PF3 := pf 3
      have PF4 := pf 4
      go_simp
      have hq := (((((HS.out.setBlk 0 (.int .i64 8)).setBlk 1 (.int .i64 0)).setBlk 2 (.string ⟨#[]⟩)).setBlk 3 (.slice none 0 0)).setBlk 4 (.slice none 0 0))
      simp only [List.setIfInBounds_toArray, List.set_cons_zero, List.set_cons_succ] at hq
      have HS := Lib.hid (hq.swap)
      clear x0 x1 x2 x3 x4 p0 p1 p2 p3 p4 pf pl PF0 PF1 PF2 PF3 PF4 hq
      obtain ⟨x0, x1, x2, x3, x4⟩ := box_cells (HBo.out.below HS.out.bel HBo.out.lt)
      refine hK.out _ _ (by (try dsimp only); first | exact ⟨x0, x1, x2, x3, x4⟩ | go_keep) (fun hHeld => ?_)
      clear hK K
      try simp only [Act.put, List.getElem_toArray, List.getElem_cons_zero, List.getElem_cons_succ, List.setIfInBounds_toArray, List.set_cons_zero, List.set_cons_succ]
      refine wpAnyH_done (by kernel_rfl) ?_ _
      obtain ⟨W, hW⟩ : ∃ z, z = worldOf HS := ⟨_, rfl⟩
      unfold worldOf at hW
      rw [← hW] at HS ⊢
      clear hW
      obtain ⟨pa, hpa⟩ : ∃ z, z = headOf HS := ⟨_, rfl⟩
      unfold headOf at hpa
      rw [← hpa] at HS ⊢
      have HSw := Lib.hid HS.out.swap
      obtain ⟨pb, hpb⟩ : ∃ z, z = headOf HSw := ⟨_, rfl⟩
      unfold headOf at hpb
      rw [← hpb] at HS ⊢
      clear hpa hpb HSw
      have hn1 : pb ≠ pa := St.blk_neC HS.out
      have hga := St.blk_ge HS.out
      have hgb := St.blk_ge HS.out.swap
      have hlo := HBo.out.lt
      have hn2 : pa ≠ w.heap.size := by omega
      have hn3 : pb ≠ w.heap.size := by omega
      have hn4 := hn1.symm
      have hn5 := hn2.symm
      have hn6 := hn3.symm
      clear x0 x1 x2 x3 x4 hga hgb hlo
      obtain ⟨⟨p0, p1, p2, p3, p4⟩, pf, pl⟩ := blk_facts HS.out
      obtain ⟨⟨q0, q1, q2, q3, q4⟩, qf, ql⟩ := blk_facts HS.out.swap
      obtain ⟨x0, x1, x2, x3, x4⟩ := box_cells (HBo.out.below HS.out.bel HBo.out.lt)
      go_wp2_with (at_builtin; refine wpList_append_elemN _ rfl _ _ 23 rfl 0 9 i0 _ 16 Tryz.underlying23 hi hz0 hz1 hz2 rfl _ l (by rfl) HS.out.bring2.ol x (svl_ok x) _ rfl (by rfl) hby (by omega) (Nat.zero_le _) ?_; intro v7 w7 hown7 hg7 hat7; have h7 := HS.out.bring2.grewOl hown7 hg7 hat7 (by simp); rw [← HO.out] at hown7 h7; obtain ⟨A7, c7, rfl, -, -, -, -⟩ := hown7.form; clear x0 x1 x2 x3 x4 p0 p1 p2 p3 p4 pf pl q0 q1 q2 q3 q4 qf ql; obtain ⟨⟨p0, p1, p2, p3, p4⟩, pf, pl⟩ := blk_facts h7.swap; obtain ⟨⟨q0, q1, q2, q3, q4⟩, qf, ql⟩ := blk_facts h7.bring2; obtain ⟨x0, x1, x2, x3, x4⟩ := box_cells (HBo.out.below h7.bel HBo.out.lt); have hxl := (HBo.out.below h7.bel HBo.out.lt).lt; have PF := pf 4; have QF := qf 4; have h8 := h7.swap.setBlk 4 (.slice A7 O.length c7); simp only [List.setIfInBounds_toArray, List.set_cons_zero, List.set_cons_succ] at h8; have h9 := h8.bring2.setBlk 4 (.slice (some ⟨w7.heap.size, 0, none⟩) 1 1); simp only [List.setIfInBounds_toArray, List.set_cons_zero, List.set_cons_succ] at h9; have h10' := h9.newOl (OL.lit1 _ 9 x (svl_ok x)) ((Below.refl _ _).alloc (Nat.le_refl _) _); rw [show ((w7.setCell ⟨pa, 4, none⟩ (.slice A7 O.length c7)).setCell ⟨pb, 4, none⟩ (.slice (some ⟨w7.heap.size, 0, none⟩) 1 1)).heap.size = w7.heap.size from by simp] at h10'; have h10 := h10'.swap; clear h10'; have H10 := Lib.hid h10; clear hown7 hg7 hat7 h7 h8 h9 h10 HS)
      refine (HCO.out _ (HB.out.trans (H10.out.bel.mono HB.out.size))).mono ?_
      rintro e w11 ⟨D2, d2, D2', d2', rfl, ho2, b11⟩
      have H11 := Lib.hid (H10.out.below b11)
      clear H10 b11 x0 x1 x2 x3 x4 p0 p1 p2 p3 p4 pf pl q0 q1 q2 q3 q4 qf ql PF QF hxl
      go_wp2_with fail
      refine (HPA.out D2 d2 D2' d2' w11 (HB.out.trans (H11.out.bel.mono HB.out.size)) ho2.reads.2.1).mono ?_
      rintro e w12 ⟨rfl, b12⟩
      have H12 := Lib.hid (H11.out.below b12)
      obtain ⟨⟨q0, q1, q2, q3, q4⟩, -, -⟩ := blk_facts H12.out
      clear H11 b12 ho2
      go_wp2_with fail
      refine (HPB.out _ w12 (HB.out.trans (H12.out.bel.mono HB.out.size)) H12.out.swap.ol.reads.2.1).mono ?_
      rintro e w13 ⟨rfl, b13⟩
      have H13 := Lib.hid (H12.out.below b13)
      clear H12 b13 q0 q1 q2 q3 q4
      obtain ⟨⟨p0, p1, p2, p3, p4⟩, -, -⟩ := blk_facts H13.out.bring2
      go_wp2_with fail
      refine (HPC.out _ _ _ _ w13 (HB.out.trans (H13.out.bel.mono HB.out.size)) H13.out.bring3.ol.reads.2.1).mono ?_
      rintro e w14 ⟨rfl, b14⟩
      have H14 := Lib.hid (H13.out.below b14)
      clear H13 b14 p0 p1 p2 p3 p4
      obtain ⟨⟨q0, q1, q2, q3, q4⟩, -, -⟩ := blk_facts H14.out
      go_wp2_with fail
      refine (HC1.out _ w14 (HB.out.trans (H14.out.bel.mono HB.out.size)) H14.out.swap.ol.reads.2.1).mono ?_
      rintro e w15 ⟨rfl, b15⟩
      have H15 := Lib.hid (HB.out.trans ((H14.out.below b15).bel.mono HB.out.size))
      clear H14 b15 q0 q1 q2 q3 q4
      by_cases hE : E = 0
      · subst hE
        obtain ⟨s1, s2, s3, rfl⟩ := E6.out rfl
        have hss := str_self (SA ++ SB.extract 4 SB.size)
        have s4 : (4 : Int) < (SB.size : Int) := by omega
        have hno : ¬ (9223372036854775807 < SA.size + (SB.extract 4 SB.size).size) := by
          have : (SB.extract 4 SB.size).size ≤ SB.size := by rw [ByteArray.size_extract]; omega
          omega
        clear E5 E6
        go_wp2
        go_ret
        exact ⟨rfl, H15.out⟩
      · obtain ⟨rfl, rfl⟩ := E5.out hE
        have hne : (E != 0) = true := by simpa using hE
        have hee : (E == E) = true := by simp
        clear E5 E6
        go_wp2
        go_ret
        exact ⟨rfl, H15.out⟩
    refine AllReadyH.cons rfl (fun K hK => ?_) AllReadyH.nil
    obtain ⟨wq, hwq⟩ : ∃ z, z = worldOf HS := ⟨_, rfl⟩
    unfold worldOf at hwq
    rw [← hwq] at HS ⊢
    clear hwq x0 x1 x2 x3 x4
    obtain ⟨x0, x1, x2, x3, x4⟩ := box_cells (HBo.out.below HS.out.bel HBo.out.lt)
    go_simp
    have HS := Lib.hid (HS.out.newBlk 25 #[.int .i64 0, .int .i64 0, .string ⟨#[]⟩, .slice none 0 0, .slice none 0 0])
    clear x0 x1 x2 x3 x4
    obtain ⟨x0, x1, x2, x3, x4⟩ := box_cells (HBo.out.below HS.out.bel HBo.out.lt)
    refine hK.out _ _ (by (try dsimp only); first | exact ⟨x0, x1, x2, x3, x4⟩ | go_keep) (fun hHeld => ?_)
    clear hK K
    try simp only [Act.put, List.getElem_toArray, List.getElem_cons_zero, List.getElem_cons_succ, List.setIfInBounds_toArray, List.set_cons_zero, List.set_cons_succ]
    refine wpAnyH_ready (rs := [5]) (by kernel_rfl) (by simp) ?_
    refine AllReadyH.cons rfl (fun K hK => ?_) AllReadyH.nil
    obtain ⟨wq, hwq⟩ : ∃ z, z = worldOf HS := ⟨_, rfl⟩
    unfold worldOf at hwq
    rw [← hwq] at HS ⊢
    clear hwq x0 x1 x2 x3 x4
    obtain ⟨x0, x1, x2, x3, x4⟩ := box_cells (HBo.out.below HS.out.bel HBo.out.lt)
    go_simp
    have HS := Lib.hid (HS.out.newBlk 25 #[.int .i64 0, .int .i64 0, .string ⟨#[]⟩, .slice none 0 0, .slice none 0 0])
    clear x0 x1 x2 x3 x4
    obtain ⟨x0, x1, x2, x3, x4⟩ := box_cells (HBo.out.below HS.out.bel HBo.out.lt)
    refine hK.out _ _ (by (try dsimp only); first | exact ⟨x0, x1, x2, x3, x4⟩ | go_keep) (fun hHeld => ?_)
    clear hK K
    try simp only [Act.put, List.getElem_toArray, List.getElem_cons_zero, List.getElem_cons_succ, List.setIfInBounds_toArray, List.set_cons_zero, List.set_cons_succ]
    refine wpAnyH_ready (rs := [7]) (by kernel_rfl) (by simp) ?_
    refine AllReadyH.cons rfl (fun K hK => ?_) AllReadyH.nil
    have HS := Lib.hid (HS.out.bring2.bring2.bring2)
    obtain ⟨wq, hwq⟩ : ∃ z, z = worldOf HS := ⟨_, rfl⟩
    unfold worldOf at hwq
    rw [← hwq] at HS ⊢
    clear hwq x0 x1 x2 x3 x4
    obtain ⟨x0, x1, x2, x3, x4⟩ := box_cells (HBo.out.below HS.out.bel HBo.out.lt)
    obtain ⟨⟨p0, p1, p2, p3, p4⟩, pf, pl⟩ := blk_facts HS.out
    have PF0 := pf 0
    have PF1 := pf 1
    have PF2 := pf 2
    have PF3 := pf 3
    have PF4 := pf 4
    go_simp
    have hq := (((((HS.out.setBlk 0 (.int .i64 8)).setBlk 1 (.int .i64 0)).setBlk 2 (.string ⟨#[]⟩)).setBlk 3 (.slice D' 0 d')).setBlk 4 (.slice D l.length d))
    simp only [List.setIfInBounds_toArray, List.set_cons_zero, List.set_cons_succ] at hq
    have HS := Lib.hid (hq)
    clear x0 x1 x2 x3 x4 p0 p1 p2 p3 p4 pf pl PF0 PF1 PF2 PF3 PF4 hq
    obtain ⟨x0, x1, x2, x3, x4⟩ := box_cells (HBo.out.below HS.out.bel HBo.out.lt)
    refine hK.out _ _ (by (try dsimp only); first | exact ⟨x0, x1, x2, x3, x4⟩ | go_keep) (fun hHeld => ?_)
    clear hK K
    try simp only [Act.put, List.getElem_toArray, List.getElem_cons_zero, List.getElem_cons_succ, List.setIfInBounds_toArray, List.set_cons_zero, List.set_cons_succ]
    refine wpAnyH_ready (rs := [8]) (by kernel_rfl) (by simp) ?_
    refine AllReadyH.cons rfl (fun K hK => ?_) AllReadyH.nil
    have HS := Lib.hid (HS.out.swap)
    obtain ⟨wq, hwq⟩ : ∃ z, z = worldOf HS := ⟨_, rfl⟩
    unfold worldOf at hwq
    rw [← hwq] at HS ⊢
    clear hwq x0 x1 x2 x3 x4
    obtain ⟨x0, x1, x2, x3, x4⟩ := box_cells (HBo.out.below HS.out.bel HBo.out.lt)
    obtain ⟨⟨p0, p1, p2, p3, p4⟩, pf, pl⟩ := blk_facts HS.out
    have PF0 := pf 0
    have PF1 := pf 1
    have PF2 := pf 2
    have PF3 := pf 3
    have PF4 := pf 4
    go_simp
    have hq := (((((HS.out.setBlk 0 (.int .i64 8)).setBlk 1 (.int .i64 0)).setBlk 2 (.string ⟨#[]⟩)).setBlk 3 (.slice none 0 0)).setBlk 4 (.slice none 0 0))
    simp only [List.setIfInBounds_toArray, List.set_cons_zero, List.set_cons_succ] at hq
    have HS := Lib.hid (hq.swap)
    clear x0 x1 x2 x3 x4 p0 p1 p2 p3 p4 pf pl PF0 PF1 PF2 PF3 PF4 hq
    obtain ⟨x0, x1, x2, x3, x4⟩ := box_cells (HBo.out.below HS.out.bel HBo.out.lt)
    refine hK.out _ _ (by (try dsimp only); first | exact ⟨x0, x1, x2, x3, x4⟩ | go_keep) (fun hHeld => ?_)
    clear hK K
    try simp only [Act.put, List.getElem_toArray, List.getElem_cons_zero, List.getElem_cons_succ, List.setIfInBounds_toArray, List.set_cons_zero, List.set_cons_succ]
    refine wpAnyH_done (by kernel_rfl) ?_ _
    obtain ⟨W, hW⟩ : ∃ z, z = worldOf HS := ⟨_, rfl⟩
    unfold worldOf at hW
    rw [← hW] at HS ⊢
    clear hW
    obtain ⟨pa, hpa⟩ : ∃ z, z = headOf HS := ⟨_, rfl⟩
    unfold headOf at hpa
    rw [← hpa] at HS ⊢
    have HSw := Lib.hid HS.out.swap
    obtain ⟨pb, hpb⟩ : ∃ z, z = headOf HSw := ⟨_, rfl⟩
    unfold headOf at hpb
    rw [← hpb] at HS ⊢
    clear hpa hpb HSw
    have hn1 : pb ≠ pa := St.blk_neC HS.out
    have hga := St.blk_ge HS.out
    have hgb := St.blk_ge HS.out.swap
    have hlo := HBo.out.lt
    have hn2 : pa ≠ w.heap.size := by omega
    have hn3 : pb ≠ w.heap.size := by omega
    have hn4 := hn1.symm
    have hn5 := hn2.symm
    have hn6 := hn3.symm
    clear x0 x1 x2 x3 x4 hga hgb hlo
    obtain ⟨⟨p0, p1, p2, p3, p4⟩, pf, pl⟩ := blk_facts HS.out
    obtain ⟨⟨q0, q1, q2, q3, q4⟩, qf, ql⟩ := blk_facts HS.out.swap
    obtain ⟨x0, x1, x2, x3, x4⟩ := box_cells (HBo.out.below HS.out.bel HBo.out.lt)
    go_wp2_with (at_builtin; refine wpList_append_elemN _ rfl _ _ 23 rfl 0 9 i0 _ 16 Tryz.underlying23 hi hz0 hz1 hz2 rfl _ l (by rfl) HS.out.bring2.ol x (svl_ok x) _ rfl (by rfl) hby (by omega) (Nat.zero_le _) ?_; intro v7 w7 hown7 hg7 hat7; have h7 := HS.out.bring2.grewOl hown7 hg7 hat7 (by simp); rw [← HO.out] at hown7 h7; obtain ⟨A7, c7, rfl, -, -, -, -⟩ := hown7.form; clear x0 x1 x2 x3 x4 p0 p1 p2 p3 p4 pf pl q0 q1 q2 q3 q4 qf ql; obtain ⟨⟨p0, p1, p2, p3, p4⟩, pf, pl⟩ := blk_facts h7.swap; obtain ⟨⟨q0, q1, q2, q3, q4⟩, qf, ql⟩ := blk_facts h7.bring2; obtain ⟨x0, x1, x2, x3, x4⟩ := box_cells (HBo.out.below h7.bel HBo.out.lt); have hxl := (HBo.out.below h7.bel HBo.out.lt).lt; have PF := pf 4; have QF := qf 4; have h8 := h7.swap.setBlk 4 (.slice A7 O.length c7); simp only [List.setIfInBounds_toArray, List.set_cons_zero, List.set_cons_succ] at h8; have h9 := h8.bring2.setBlk 4 (.slice (some ⟨w7.heap.size, 0, none⟩) 1 1); simp only [List.setIfInBounds_toArray, List.set_cons_zero, List.set_cons_succ] at h9; have h10' := h9.newOl (OL.lit1 _ 9 x (svl_ok x)) ((Below.refl _ _).alloc (Nat.le_refl _) _); rw [show ((w7.setCell ⟨pa, 4, none⟩ (.slice A7 O.length c7)).setCell ⟨pb, 4, none⟩ (.slice (some ⟨w7.heap.size, 0, none⟩) 1 1)).heap.size = w7.heap.size from by simp] at h10'; have h10 := h10'.swap; clear h10'; have H10 := Lib.hid h10; clear hown7 hg7 hat7 h7 h8 h9 h10 HS)
    refine (HCO.out _ (HB.out.trans (H10.out.bel.mono HB.out.size))).mono ?_
    rintro e w11 ⟨D2, d2, D2', d2', rfl, ho2, b11⟩
    have H11 := Lib.hid (H10.out.below b11)
    clear H10 b11 x0 x1 x2 x3 x4 p0 p1 p2 p3 p4 pf pl q0 q1 q2 q3 q4 qf ql PF QF hxl
    go_wp2_with fail
    refine (HPA.out D2 d2 D2' d2' w11 (HB.out.trans (H11.out.bel.mono HB.out.size)) ho2.reads.2.1).mono ?_
    rintro e w12 ⟨rfl, b12⟩
    have H12 := Lib.hid (H11.out.below b12)
    obtain ⟨⟨q0, q1, q2, q3, q4⟩, -, -⟩ := blk_facts H12.out
    clear H11 b12 ho2
    go_wp2_with fail
    refine (HPB.out _ w12 (HB.out.trans (H12.out.bel.mono HB.out.size)) H12.out.swap.ol.reads.2.1).mono ?_
    rintro e w13 ⟨rfl, b13⟩
    have H13 := Lib.hid (H12.out.below b13)
    clear H12 b13 q0 q1 q2 q3 q4
    obtain ⟨⟨p0, p1, p2, p3, p4⟩, -, -⟩ := blk_facts H13.out.bring2
    go_wp2_with fail
    refine (HPC.out _ _ _ _ w13 (HB.out.trans (H13.out.bel.mono HB.out.size)) H13.out.bring3.ol.reads.2.1).mono ?_
    rintro e w14 ⟨rfl, b14⟩
    have H14 := Lib.hid (H13.out.below b14)
    clear H13 b14 p0 p1 p2 p3 p4
    obtain ⟨⟨q0, q1, q2, q3, q4⟩, -, -⟩ := blk_facts H14.out
    go_wp2_with fail
    refine (HC1.out _ w14 (HB.out.trans (H14.out.bel.mono HB.out.size)) H14.out.swap.ol.reads.2.1).mono ?_
    rintro e w15 ⟨rfl, b15⟩
    have H15 := Lib.hid (HB.out.trans ((H14.out.below b15).bel.mono HB.out.size))
    clear H14 b15 q0 q1 q2 q3 q4
    by_cases hE : E = 0
    · subst hE
      obtain ⟨s1, s2, s3, rfl⟩ := E6.out rfl
      have hss := str_self (SA ++ SB.extract 4 SB.size)
      have s4 : (4 : Int) < (SB.size : Int) := by omega
      have hno : ¬ (9223372036854775807 < SA.size + (SB.extract 4 SB.size).size) := by
        have : (SB.extract 4 SB.size).size ≤ SB.size := by rw [ByteArray.size_extract]; omega
        omega
      clear E5 E6
      go_wp2
      go_ret
      exact ⟨rfl, H15.out⟩
    · obtain ⟨rfl, rfl⟩ := E5.out hE
      have hne : (E != 0) = true := by simpa using hE
      have hee : (E == E) = true := by simp
      clear E5 E6
      go_wp2
      go_ret
      exact ⟨rfl, H15.out⟩
  refine AllReadyH.cons rfl (fun K hK => ?_) ?_
  · obtain ⟨wq, hwq⟩ : ∃ z, z = worldOf HS := ⟨_, rfl⟩
    unfold worldOf at hwq
    rw [← hwq] at HS ⊢
    clear hwq x0 x1 x2 x3 x4
    obtain ⟨x0, x1, x2, x3, x4⟩ := box_cells (HBo.out.below HS.out.bel HBo.out.lt)
    go_simp
    have HS := Lib.hid (HS.out.newBlk 25 #[.int .i64 0, .int .i64 0, .string ⟨#[]⟩, .slice none 0 0, .slice none 0 0])
    clear x0 x1 x2 x3 x4
    obtain ⟨x0, x1, x2, x3, x4⟩ := box_cells (HBo.out.below HS.out.bel HBo.out.lt)
    refine hK.out _ _ (by (try dsimp only); first | exact ⟨x0, x1, x2, x3, x4⟩ | go_keep) (fun hHeld => ?_)
    clear hK K
    try simp only [Act.put, List.getElem_toArray, List.getElem_cons_zero, List.getElem_cons_succ, List.setIfInBounds_toArray, List.set_cons_zero, List.set_cons_succ]
    refine wpAnyH_ready (rs := [1, 6]) (by kernel_rfl) (by simp) ?_
    refine AllReadyH.cons rfl (fun K hK => ?_) ?_
    · obtain ⟨wq, hwq⟩ : ∃ z, z = worldOf HS := ⟨_, rfl⟩
      unfold worldOf at hwq
      rw [← hwq] at HS ⊢
      clear hwq x0 x1 x2 x3 x4
      obtain ⟨x0, x1, x2, x3, x4⟩ := box_cells (HBo.out.below HS.out.bel HBo.out.lt)
      go_simp
      go_at_call 10
      refine (HCO.out _ (HB.out.trans (HS.out.bel.mono HB.out.size))).mono ?_
      rintro e w3 ⟨D, d, D', d', rfl, ho, hb⟩
      have HS := Lib.hid (HS.out.newOl ho hb)
      clear x0 x1 x2 x3 x4 ho hb
      obtain ⟨x0, x1, x2, x3, x4⟩ := box_cells (HBo.out.below HS.out.bel HBo.out.lt)
      refine hK.out _ _ (by (try dsimp only); first | exact ⟨x0, x1, x2, x3, x4⟩ | go_keep) (fun hHeld => ?_)
      clear hK K
      try simp only [Act.put, List.getElem_toArray, List.getElem_cons_zero, List.getElem_cons_succ, List.setIfInBounds_toArray, List.set_cons_zero, List.set_cons_succ]
      refine wpAnyH_ready (rs := [6]) (by kernel_rfl) (by simp) ?_
      refine AllReadyH.cons rfl (fun K hK => ?_) AllReadyH.nil
      obtain ⟨wq, hwq⟩ : ∃ z, z = worldOf HS := ⟨_, rfl⟩
      unfold worldOf at hwq
      rw [← hwq] at HS ⊢
      clear hwq x0 x1 x2 x3 x4
      obtain ⟨x0, x1, x2, x3, x4⟩ := box_cells (HBo.out.below HS.out.bel HBo.out.lt)
      go_simp
      have HS := Lib.hid (HS.out.newBlk 25 #[.int .i64 0, .int .i64 0, .string ⟨#[]⟩, .slice none 0 0, .slice none 0 0])
      clear x0 x1 x2 x3 x4
      obtain ⟨x0, x1, x2, x3, x4⟩ := box_cells (HBo.out.below HS.out.bel HBo.out.lt)
      refine hK.out _ _ (by (try dsimp only); first | exact ⟨x0, x1, x2, x3, x4⟩ | go_keep) (fun hHeld => ?_)
      clear hK K
      try simp only [Act.put, List.getElem_toArray, List.getElem_cons_zero, List.getElem_cons_succ, List.setIfInBounds_toArray, List.set_cons_zero, List.set_cons_succ]
      refine wpAnyH_ready (rs := [7]) (by kernel_rfl) (by simp) ?_
      refine AllReadyH.cons rfl (fun K hK => ?_) AllReadyH.nil
      have HS := Lib.hid (HS.out.swap.swap.bring2)
      obtain ⟨wq, hwq⟩ : ∃ z, z = worldOf HS := ⟨_, rfl⟩
      unfold worldOf at hwq
      rw [← hwq] at HS ⊢
      clear hwq x0 x1 x2 x3 x4
      obtain ⟨x0, x1, x2, x3, x4⟩ := box_cells (HBo.out.below HS.out.bel HBo.out.lt)
      obtain ⟨⟨p0, p1, p2, p3, p4⟩, pf, pl⟩ := blk_facts HS.out
      have PF0 := pf 0
      have PF1 := pf 1
      have PF2 := pf 2
      have PF3 := pf 3
      have PF4 := pf 4
      go_simp
      have hq := (((((HS.out.setBlk 0 (.int .i64 8)).setBlk 1 (.int .i64 0)).setBlk 2 (.string ⟨#[]⟩)).setBlk 3 (.slice D' 0 d')).setBlk 4 (.slice D l.length d))
      simp only [List.setIfInBounds_toArray, List.set_cons_zero, List.set_cons_succ] at hq
      have HS := Lib.hid (hq)
      clear x0 x1 x2 x3 x4 p0 p1 p2 p3 p4 pf pl PF0 PF1 PF2 PF3 PF4 hq
      obtain ⟨x0, x1, x2, x3, x4⟩ := box_cells (HBo.out.below HS.out.bel HBo.out.lt)
      refine hK.out _ _ (by (try dsimp only); first | exact ⟨x0, x1, x2, x3, x4⟩ | go_keep) (fun hHeld => ?_)
      clear hK K
      try simp only [Act.put, List.getElem_toArray, List.getElem_cons_zero, List.getElem_cons_succ, List.setIfInBounds_toArray, List.set_cons_zero, List.set_cons_succ]
      refine wpAnyH_ready (rs := [8]) (by kernel_rfl) (by simp) ?_
      refine AllReadyH.cons rfl (fun K hK => ?_) AllReadyH.nil
      have HS := Lib.hid (HS.out.swap)
      obtain ⟨wq, hwq⟩ : ∃ z, z = worldOf HS := ⟨_, rfl⟩
      unfold worldOf at hwq
      rw [← hwq] at HS ⊢
      clear hwq x0 x1 x2 x3 x4
      obtain ⟨x0, x1, x2, x3, x4⟩ := box_cells (HBo.out.below HS.out.bel HBo.out.lt)
      obtain ⟨⟨p0, p1, p2, p3, p4⟩, pf, pl⟩ := blk_facts HS.out
      have PF0 := pf 0
      have PF1 := pf 1
      have PF2 := pf 2
      have PF3 := pf 3
      have PF4 := pf 4
      go_simp
      have hq := (((((HS.out.setBlk 0 (.int .i64 8)).setBlk 1 (.int .i64 0)).setBlk 2 (.string ⟨#[]⟩)).setBlk 3 (.slice none 0 0)).setBlk 4 (.slice none 0 0))
      simp only [List.setIfInBounds_toArray, List.set_cons_zero, List.set_cons_succ] at hq
      have HS := Lib.hid (hq.swap)
      clear x0 x1 x2 x3 x4 p0 p1 p2 p3 p4 pf pl PF0 PF1 PF2 PF3 PF4 hq
      obtain ⟨x0, x1, x2, x3, x4⟩ := box_cells (HBo.out.below HS.out.bel HBo.out.lt)
      refine hK.out _ _ (by (try dsimp only); first | exact ⟨x0, x1, x2, x3, x4⟩ | go_keep) (fun hHeld => ?_)
      clear hK K
      try simp only [Act.put, List.getElem_toArray, List.getElem_cons_zero, List.getElem_cons_succ, List.setIfInBounds_toArray, List.set_cons_zero, List.set_cons_succ]
      refine wpAnyH_done (by kernel_rfl) ?_ _
      obtain ⟨W, hW⟩ : ∃ z, z = worldOf HS := ⟨_, rfl⟩
      unfold worldOf at hW
      rw [← hW] at HS ⊢
      clear hW
      obtain ⟨pa, hpa⟩ : ∃ z, z = headOf HS := ⟨_, rfl⟩
      unfold headOf at hpa
      rw [← hpa] at HS ⊢
      have HSw := Lib.hid HS.out.swap
      obtain ⟨pb, hpb⟩ : ∃ z, z = headOf HSw := ⟨_, rfl⟩
      unfold headOf at hpb
      rw [← hpb] at HS ⊢
      clear hpa hpb HSw
      have hn1 : pb ≠ pa := St.blk_neC HS.out
      have hga := St.blk_ge HS.out
      have hgb := St.blk_ge HS.out.swap
      have hlo := HBo.out.lt
      have hn2 : pa ≠ w.heap.size := by omega
      have hn3 : pb ≠ w.heap.size := by omega
      have hn4 := hn1.symm
      have hn5 := hn2.symm
      have hn6 := hn3.symm
      clear x0 x1 x2 x3 x4 hga hgb hlo
      obtain ⟨⟨p0, p1, p2, p3, p4⟩, pf, pl⟩ := blk_facts HS.out
      obtain ⟨⟨q0, q1, q2, q3, q4⟩, qf, ql⟩ := blk_facts HS.out.swap
      obtain ⟨x0, x1, x2, x3, x4⟩ := box_cells (HBo.out.below HS.out.bel HBo.out.lt)
      go_wp2_with (at_builtin; refine wpList_append_elemN _ rfl _ _ 23 rfl 0 9 i0 _ 16 Tryz.underlying23 hi hz0 hz1 hz2 rfl _ l (by rfl) HS.out.bring2.ol x (svl_ok x) _ rfl (by rfl) hby (by omega) (Nat.zero_le _) ?_; intro v7 w7 hown7 hg7 hat7; have h7 := HS.out.bring2.grewOl hown7 hg7 hat7 (by simp); rw [← HO.out] at hown7 h7; obtain ⟨A7, c7, rfl, -, -, -, -⟩ := hown7.form; clear x0 x1 x2 x3 x4 p0 p1 p2 p3 p4 pf pl q0 q1 q2 q3 q4 qf ql; obtain ⟨⟨p0, p1, p2, p3, p4⟩, pf, pl⟩ := blk_facts h7.swap; obtain ⟨⟨q0, q1, q2, q3, q4⟩, qf, ql⟩ := blk_facts h7.bring2; obtain ⟨x0, x1, x2, x3, x4⟩ := box_cells (HBo.out.below h7.bel HBo.out.lt); have hxl := (HBo.out.below h7.bel HBo.out.lt).lt; have PF := pf 4; have QF := qf 4; have h8 := h7.swap.setBlk 4 (.slice A7 O.length c7); simp only [List.setIfInBounds_toArray, List.set_cons_zero, List.set_cons_succ] at h8; have h9 := h8.bring2.setBlk 4 (.slice (some ⟨w7.heap.size, 0, none⟩) 1 1); simp only [List.setIfInBounds_toArray, List.set_cons_zero, List.set_cons_succ] at h9; have h10' := h9.newOl (OL.lit1 _ 9 x (svl_ok x)) ((Below.refl _ _).alloc (Nat.le_refl _) _); rw [show ((w7.setCell ⟨pa, 4, none⟩ (.slice A7 O.length c7)).setCell ⟨pb, 4, none⟩ (.slice (some ⟨w7.heap.size, 0, none⟩) 1 1)).heap.size = w7.heap.size from by simp] at h10'; have h10 := h10'.swap; clear h10'; have H10 := Lib.hid h10; clear hown7 hg7 hat7 h7 h8 h9 h10 HS)
      refine (HCO.out _ (HB.out.trans (H10.out.bel.mono HB.out.size))).mono ?_
      rintro e w11 ⟨D2, d2, D2', d2', rfl, ho2, b11⟩
      have H11 := Lib.hid (H10.out.below b11)
      clear H10 b11 x0 x1 x2 x3 x4 p0 p1 p2 p3 p4 pf pl q0 q1 q2 q3 q4 qf ql PF QF hxl
      go_wp2_with fail
      refine (HPA.out D2 d2 D2' d2' w11 (HB.out.trans (H11.out.bel.mono HB.out.size)) ho2.reads.2.1).mono ?_
      rintro e w12 ⟨rfl, b12⟩
      have H12 := Lib.hid (H11.out.below b12)
      obtain ⟨⟨q0, q1, q2, q3, q4⟩, -, -⟩ := blk_facts H12.out
      clear H11 b12 ho2
      go_wp2_with fail
      refine (HPB.out _ w12 (HB.out.trans (H12.out.bel.mono HB.out.size)) H12.out.swap.ol.reads.2.1).mono ?_
      rintro e w13 ⟨rfl, b13⟩
      have H13 := Lib.hid (H12.out.below b13)
      clear H12 b13 q0 q1 q2 q3 q4
      obtain ⟨⟨p0, p1, p2, p3, p4⟩, -, -⟩ := blk_facts H13.out.bring2
      go_wp2_with fail
      refine (HPC.out _ _ _ _ w13 (HB.out.trans (H13.out.bel.mono HB.out.size)) H13.out.bring3.ol.reads.2.1).mono ?_
      rintro e w14 ⟨rfl, b14⟩
      have H14 := Lib.hid (H13.out.below b14)
      clear H13 b14 p0 p1 p2 p3 p4
      obtain ⟨⟨q0, q1, q2, q3, q4⟩, -, -⟩ := blk_facts H14.out
      go_wp2_with fail
      refine (HC1.out _ w14 (HB.out.trans (H14.out.bel.mono HB.out.size)) H14.out.swap.ol.reads.2.1).mono ?_
      rintro e w15 ⟨rfl, b15⟩
      have H15 := Lib.hid (HB.out.trans ((H14.out.below b15).bel.mono HB.out.size))
      clear H14 b15 q0 q1 q2 q3 q4
      by_cases hE : E = 0
      · subst hE
        obtain ⟨s1, s2, s3, rfl⟩ := E6.out rfl
        have hss := str_self (SA ++ SB.extract 4 SB.size)
        have s4 : (4 : Int) < (SB.size : Int) := by omega
        have hno : ¬ (9223372036854775807 < SA.size + (SB.extract 4 SB.size).size) := by
          have : (SB.extract 4 SB.size).size ≤ SB.size := by rw [ByteArray.size_extract]; omega
          omega
        clear E5 E6
        go_wp2
        go_ret
        exact ⟨rfl, H15.out⟩
      · obtain ⟨rfl, rfl⟩ := E5.out hE
        have hne : (E != 0) = true := by simpa using hE
        have hee : (E == E) = true := by simp
        clear E5 E6
        go_wp2
        go_ret
        exact ⟨rfl, H15.out⟩
    refine AllReadyH.cons rfl (fun K hK => ?_) AllReadyH.nil
    obtain ⟨wq, hwq⟩ : ∃ z, z = worldOf HS := ⟨_, rfl⟩
    unfold worldOf at hwq
    rw [← hwq] at HS ⊢
    clear hwq x0 x1 x2 x3 x4
    obtain ⟨x0, x1, x2, x3, x4⟩ := box_cells (HBo.out.below HS.out.bel HBo.out.lt)
    go_simp
    have HS := Lib.hid (HS.out.newBlk 25 #[.int .i64 0, .int .i64 0, .string ⟨#[]⟩, .slice none 0 0, .slice none 0 0])
    clear x0 x1 x2 x3 x4
    obtain ⟨x0, x1, x2, x3, x4⟩ := box_cells (HBo.out.below HS.out.bel HBo.out.lt)
    refine hK.out _ _ (by (try dsimp only); first | exact ⟨x0, x1, x2, x3, x4⟩ | go_keep) (fun hHeld => ?_)
    clear hK K
    try simp only [Act.put, List.getElem_toArray, List.getElem_cons_zero, List.getElem_cons_succ, List.setIfInBounds_toArray, List.set_cons_zero, List.set_cons_succ]
    refine wpAnyH_ready (rs := [1]) (by kernel_rfl) (by simp) ?_
    refine AllReadyH.cons rfl (fun K hK => ?_) AllReadyH.nil
    obtain ⟨wq, hwq⟩ : ∃ z, z = worldOf HS := ⟨_, rfl⟩
    unfold worldOf at hwq
    rw [← hwq] at HS ⊢
    clear hwq x0 x1 x2 x3 x4
    obtain ⟨x0, x1, x2, x3, x4⟩ := box_cells (HBo.out.below HS.out.bel HBo.out.lt)
    go_simp
    go_at_call 10
    refine (HCO.out _ (HB.out.trans (HS.out.bel.mono HB.out.size))).mono ?_
    rintro e w3 ⟨D, d, D', d', rfl, ho, hb⟩
    have HS := Lib.hid (HS.out.newOl ho hb)
    clear x0 x1 x2 x3 x4 ho hb
    obtain ⟨x0, x1, x2, x3, x4⟩ := box_cells (HBo.out.below HS.out.bel HBo.out.lt)
    refine hK.out _ _ (by (try dsimp only); first | exact ⟨x0, x1, x2, x3, x4⟩ | go_keep) (fun hHeld => ?_)
    clear hK K
    try simp only [Act.put, List.getElem_toArray, List.getElem_cons_zero, List.getElem_cons_succ, List.setIfInBounds_toArray, List.set_cons_zero, List.set_cons_succ]
    refine wpAnyH_ready (rs := [7]) (by kernel_rfl) (by simp) ?_
    refine AllReadyH.cons rfl (fun K hK => ?_) AllReadyH.nil
    have HS := Lib.hid (HS.out.swap.bring2)
    obtain ⟨wq, hwq⟩ : ∃ z, z = worldOf HS := ⟨_, rfl⟩
    unfold worldOf at hwq
    rw [← hwq] at HS ⊢
    clear hwq x0 x1 x2 x3 x4
    obtain ⟨x0, x1, x2, x3, x4⟩ := box_cells (HBo.out.below HS.out.bel HBo.out.lt)
    obtain ⟨⟨p0, p1, p2, p3, p4⟩, pf, pl⟩ := blk_facts HS.out
    have PF0 := pf 0
    have PF1 := pf 1
    have PF2 := pf 2
    have PF3 := pf 3
    have PF4 := pf 4
    go_simp
    have hq := (((((HS.out.setBlk 0 (.int .i64 8)).setBlk 1 (.int .i64 0)).setBlk 2 (.string ⟨#[]⟩)).setBlk 3 (.slice D' 0 d')).setBlk 4 (.slice D l.length d))
    simp only [List.setIfInBounds_toArray, List.set_cons_zero, List.set_cons_succ] at hq
    have HS := Lib.hid (hq)
    clear x0 x1 x2 x3 x4 p0 p1 p2 p3 p4 pf pl PF0 PF1 PF2 PF3 PF4 hq
    obtain ⟨x0, x1, x2, x3, x4⟩ := box_cells (HBo.out.below HS.out.bel HBo.out.lt)
    refine hK.out _ _ (by (try dsimp only); first | exact ⟨x0, x1, x2, x3, x4⟩ | go_keep) (fun hHeld => ?_)
    clear hK K
    try simp only [Act.put, List.getElem_toArray, List.getElem_cons_zero, List.getElem_cons_succ, List.setIfInBounds_toArray, List.set_cons_zero, List.set_cons_succ]
    refine wpAnyH_ready (rs := [8]) (by kernel_rfl) (by simp) ?_
    refine AllReadyH.cons rfl (fun K hK => ?_) AllReadyH.nil
    have HS := Lib.hid (HS.out.swap)
    obtain ⟨wq, hwq⟩ : ∃ z, z = worldOf HS := ⟨_, rfl⟩
    unfold worldOf at hwq
    rw [← hwq] at HS ⊢
    clear hwq x0 x1 x2 x3 x4
    obtain ⟨x0, x1, x2, x3, x4⟩ := box_cells (HBo.out.below HS.out.bel HBo.out.lt)
    obtain ⟨⟨p0, p1, p2, p3, p4⟩, pf, pl⟩ := blk_facts HS.out
    have PF0 := pf 0
    have PF1 := pf 1
    have PF2 := pf 2
    have PF3 := pf 3
    have PF4 := pf 4
    go_simp
    have hq := (((((HS.out.setBlk 0 (.int .i64 8)).setBlk 1 (.int .i64 0)).setBlk 2 (.string ⟨#[]⟩)).setBlk 3 (.slice none 0 0)).setBlk 4 (.slice none 0 0))
    simp only [List.setIfInBounds_toArray, List.set_cons_zero, List.set_cons_succ] at hq
    have HS := Lib.hid (hq.swap)
    clear x0 x1 x2 x3 x4 p0 p1 p2 p3 p4 pf pl PF0 PF1 PF2 PF3 PF4 hq
    obtain ⟨x0, x1, x2, x3, x4⟩ := box_cells (HBo.out.below HS.out.bel HBo.out.lt)
    refine hK.out _ _ (by (try dsimp only); first | exact ⟨x0, x1, x2, x3, x4⟩ | go_keep) (fun hHeld => ?_)
    clear hK K
    try simp only [Act.put, List.getElem_toArray, List.getElem_cons_zero, List.getElem_cons_succ, List.setIfInBounds_toArray, List.set_cons_zero, List.set_cons_succ]
    refine wpAnyH_done (by kernel_rfl) ?_ _
    obtain ⟨W, hW⟩ : ∃ z, z = worldOf HS := ⟨_, rfl⟩
    unfold worldOf at hW
    rw [← hW] at HS ⊢
    clear hW
    obtain ⟨pa, hpa⟩ : ∃ z, z = headOf HS := ⟨_, rfl⟩
    unfold headOf at hpa
    rw [← hpa] at HS ⊢
    have HSw := Lib.hid HS.out.swap
    obtain ⟨pb, hpb⟩ : ∃ z, z = headOf HSw := ⟨_, rfl⟩
    unfold headOf at hpb
    rw [← hpb] at HS ⊢
    clear hpa hpb HSw
    have hn1 : pb ≠ pa := St.blk_neC HS.out
    have hga := St.blk_ge HS.out
    have hgb := St.blk_ge HS.out.swap
    have hlo := HBo.out.lt
    have hn2 : pa ≠ w.heap.size := by omega
    have hn3 : pb ≠ w.heap.size := by omega
    have hn4 := hn1.symm
    have hn5 := hn2.symm
    have hn6 := hn3.symm
    clear x0 x1 x2 x3 x4 hga hgb hlo
    obtain ⟨⟨p0, p1, p2, p3, p4⟩, pf, pl⟩ := blk_facts HS.out
    obtain ⟨⟨q0, q1, q2, q3, q4⟩, qf, ql⟩ := blk_facts HS.out.swap
    obtain ⟨x0, x1, x2, x3, x4⟩ := box_cells (HBo.out.below HS.out.bel HBo.out.lt)
    go_wp2_with (at_builtin; refine wpList_append_elemN _ rfl _ _ 23 rfl 0 9 i0 _ 16 Tryz.underlying23 hi hz0 hz1 hz2 rfl _ l (by rfl) HS.out.bring2.ol x (svl_ok x) _ rfl (by rfl) hby (by omega) (Nat.zero_le _) ?_; intro v7 w7 hown7 hg7 hat7; have h7 := HS.out.bring2.grewOl hown7 hg7 hat7 (by simp); rw [← HO.out] at hown7 h7; obtain ⟨A7, c7, rfl, -, -, -, -⟩ := hown7.form; clear x0 x1 x2 x3 x4 p0 p1 p2 p3 p4 pf pl q0 q1 q2 q3 q4 qf ql; obtain ⟨⟨p0, p1, p2, p3, p4⟩, pf, pl⟩ := blk_facts h7.swap; obtain ⟨⟨q0, q1, q2, q3, q4⟩, qf, ql⟩ := blk_facts h7.bring2; obtain ⟨x0, x1, x2, x3, x4⟩ := box_cells (HBo.out.below h7.bel HBo.out.lt); have hxl := (HBo.out.below h7.bel HBo.out.lt).lt; have PF := pf 4; have QF := qf 4; have h8 := h7.swap.setBlk 4 (.slice A7 O.length c7); simp only [List.setIfInBounds_toArray, List.set_cons_zero, List.set_cons_succ] at h8; have h9 := h8.bring2.setBlk 4 (.slice (some ⟨w7.heap.size, 0, none⟩) 1 1); simp only [List.setIfInBounds_toArray, List.set_cons_zero, List.set_cons_succ] at h9; have h10' := h9.newOl (OL.lit1 _ 9 x (svl_ok x)) ((Below.refl _ _).alloc (Nat.le_refl _) _); rw [show ((w7.setCell ⟨pa, 4, none⟩ (.slice A7 O.length c7)).setCell ⟨pb, 4, none⟩ (.slice (some ⟨w7.heap.size, 0, none⟩) 1 1)).heap.size = w7.heap.size from by simp] at h10'; have h10 := h10'.swap; clear h10'; have H10 := Lib.hid h10; clear hown7 hg7 hat7 h7 h8 h9 h10 HS)
    refine (HCO.out _ (HB.out.trans (H10.out.bel.mono HB.out.size))).mono ?_
    rintro e w11 ⟨D2, d2, D2', d2', rfl, ho2, b11⟩
    have H11 := Lib.hid (H10.out.below b11)
    clear H10 b11 x0 x1 x2 x3 x4 p0 p1 p2 p3 p4 pf pl q0 q1 q2 q3 q4 qf ql PF QF hxl
    go_wp2_with fail
    refine (HPA.out D2 d2 D2' d2' w11 (HB.out.trans (H11.out.bel.mono HB.out.size)) ho2.reads.2.1).mono ?_
    rintro e w12 ⟨rfl, b12⟩
    have H12 := Lib.hid (H11.out.below b12)
    obtain ⟨⟨q0, q1, q2, q3, q4⟩, -, -⟩ := blk_facts H12.out
    clear H11 b12 ho2
    go_wp2_with fail
    refine (HPB.out _ w12 (HB.out.trans (H12.out.bel.mono HB.out.size)) H12.out.swap.ol.reads.2.1).mono ?_
    rintro e w13 ⟨rfl, b13⟩
    have H13 := Lib.hid (H12.out.below b13)
    clear H12 b13 q0 q1 q2 q3 q4
    obtain ⟨⟨p0, p1, p2, p3, p4⟩, -, -⟩ := blk_facts H13.out.bring2
    go_wp2_with fail
    refine (HPC.out _ _ _ _ w13 (HB.out.trans (H13.out.bel.mono HB.out.size)) H13.out.bring3.ol.reads.2.1).mono ?_
    rintro e w14 ⟨rfl, b14⟩
    have H14 := Lib.hid (H13.out.below b14)
    clear H13 b14 p0 p1 p2 p3 p4
    obtain ⟨⟨q0, q1, q2, q3, q4⟩, -, -⟩ := blk_facts H14.out
    go_wp2_with fail
    refine (HC1.out _ w14 (HB.out.trans (H14.out.bel.mono HB.out.size)) H14.out.swap.ol.reads.2.1).mono ?_
    rintro e w15 ⟨rfl, b15⟩
    have H15 := Lib.hid (HB.out.trans ((H14.out.below b15).bel.mono HB.out.size))
    clear H14 b15 q0 q1 q2 q3 q4
    by_cases hE : E = 0
    · subst hE
      obtain ⟨s1, s2, s3, rfl⟩ := E6.out rfl
      have hss := str_self (SA ++ SB.extract 4 SB.size)
      have s4 : (4 : Int) < (SB.size : Int) := by omega
      have hno : ¬ (9223372036854775807 < SA.size + (SB.extract 4 SB.size).size) := by
        have : (SB.extract 4 SB.size).size ≤ SB.size := by rw [ByteArray.size_extract]; omega
        omega
      clear E5 E6
      go_wp2
      go_ret
      exact ⟨rfl, H15.out⟩
    · obtain ⟨rfl, rfl⟩ := E5.out hE
      have hne : (E != 0) = true := by simpa using hE
      have hee : (E == E) = true := by simp
      clear E5 E6
      go_wp2
      go_ret
      exact ⟨rfl, H15.out⟩
  refine AllReadyH.cons rfl (fun K hK => ?_) AllReadyH.nil
  obtain ⟨wq, hwq⟩ : ∃ z, z = worldOf HS := ⟨_, rfl⟩
  unfold worldOf at hwq
  rw [← hwq] at HS ⊢
  clear hwq x0 x1 x2 x3 x4
  obtain ⟨x0, x1, x2, x3, x4⟩ := box_cells (HBo.out.below HS.out.bel HBo.out.lt)
  go_simp
  have HS := Lib.hid (HS.out.newBlk 25 #[.int .i64 0, .int .i64 0, .string ⟨#[]⟩, .slice none 0 0, .slice none 0 0])
  clear x0 x1 x2 x3 x4
  obtain ⟨x0, x1, x2, x3, x4⟩ := box_cells (HBo.out.below HS.out.bel HBo.out.lt)
  refine hK.out _ _ (by (try dsimp only); first | exact ⟨x0, x1, x2, x3, x4⟩ | go_keep) (fun hHeld => ?_)
  clear hK K
  try simp only [Act.put, List.getElem_toArray, List.getElem_cons_zero, List.getElem_cons_succ, List.setIfInBounds_toArray, List.set_cons_zero, List.set_cons_succ]
  refine wpAnyH_ready (rs := [1, 5]) (by kernel_rfl) (by simp) ?_
  refine AllReadyH.cons rfl (fun K hK => ?_) ?_
  · obtain ⟨wq, hwq⟩ : ∃ z, z = worldOf HS := ⟨_, rfl⟩
    unfold worldOf at hwq
    rw [← hwq] at HS ⊢
    clear hwq x0 x1 x2 x3 x4
    obtain ⟨x0, x1, x2, x3, x4⟩ := box_cells (HBo.out.below HS.out.bel HBo.out.lt)
    go_simp
    go_at_call 10
    refine (HCO.out _ (HB.out.trans (HS.out.bel.mono HB.out.size))).mono ?_
    rintro e w3 ⟨D, d, D', d', rfl, ho, hb⟩
    have HS := Lib.hid (HS.out.newOl ho hb)
    clear x0 x1 x2 x3 x4 ho hb
    obtain ⟨x0, x1, x2, x3, x4⟩ := box_cells (HBo.out.below HS.out.bel HBo.out.lt)
    refine hK.out _ _ (by (try dsimp only); first | exact ⟨x0, x1, x2, x3, x4⟩ | go_keep) (fun hHeld => ?_)
    clear hK K
    try simp only [Act.put, List.getElem_toArray, List.getElem_cons_zero, List.getElem_cons_succ, List.setIfInBounds_toArray, List.set_cons_zero, List.set_cons_succ]
    refine wpAnyH_ready (rs := [5]) (by kernel_rfl) (by simp) ?_
    refine AllReadyH.cons rfl (fun K hK => ?_) AllReadyH.nil
    obtain ⟨wq, hwq⟩ : ∃ z, z = worldOf HS := ⟨_, rfl⟩
    unfold worldOf at hwq
    rw [← hwq] at HS ⊢
    clear hwq x0 x1 x2 x3 x4
    obtain ⟨x0, x1, x2, x3, x4⟩ := box_cells (HBo.out.below HS.out.bel HBo.out.lt)
    go_simp
    have HS := Lib.hid (HS.out.newBlk 25 #[.int .i64 0, .int .i64 0, .string ⟨#[]⟩, .slice none 0 0, .slice none 0 0])
    clear x0 x1 x2 x3 x4
    obtain ⟨x0, x1, x2, x3, x4⟩ := box_cells (HBo.out.below HS.out.bel HBo.out.lt)
    refine hK.out _ _ (by (try dsimp only); first | exact ⟨x0, x1, x2, x3, x4⟩ | go_keep) (fun hHeld => ?_)
    clear hK K
    try simp only [Act.put, List.getElem_toArray, List.getElem_cons_zero, List.getElem_cons_succ, List.setIfInBounds_toArray, List.set_cons_zero, List.set_cons_succ]
    refine wpAnyH_ready (rs := [7]) (by kernel_rfl) (by simp) ?_
    refine AllReadyH.cons rfl (fun K hK => ?_) AllReadyH.nil
    have HS := Lib.hid (HS.out.swap.bring2.bring2)
    obtain ⟨wq, hwq⟩ : ∃ z, z = worldOf HS := ⟨_, rfl⟩
    unfold worldOf at hwq
    rw [← hwq] at HS ⊢
    clear hwq x0 x1 x2 x3 x4
    obtain ⟨x0, x1, x2, x3, x4⟩ := box_cells (HBo.out.below HS.out.bel HBo.out.lt)
    obtain ⟨⟨p0, p1, p2, p3, p4⟩, pf, pl⟩ := blk_facts HS.out
    have PF0 := pf 0
    have PF1 := pf 1
    have PF2 := pf 2
    have PF3 := pf 3
    have PF4 := pf 4
    go_simp
    have hq := (((((HS.out.setBlk 0 (.int .i64 8)).setBlk 1 (.int .i64 0)).setBlk 2 (.string ⟨#[]⟩)).setBlk 3 (.slice D' 0 d')).setBlk 4 (.slice D l.length d))
    simp only [List.setIfInBounds_toArray, List.set_cons_zero, List.set_cons_succ] at hq
    have HS := Lib.hid (hq)
    clear x0 x1 x2 x3 x4 p0 p1 p2 p3 p4 pf pl PF0 PF1 PF2 PF3 PF4 hq
    obtain ⟨x0, x1, x2, x3, x4⟩ := box_cells (HBo.out.below HS.out.bel HBo.out.lt)
    refine hK.out _ _ (by (try dsimp only); first | exact ⟨x0, x1, x2, x3, x4⟩ | go_keep) (fun hHeld => ?_)
    clear hK K
    try simp only [Act.put, List.getElem_toArray, List.getElem_cons_zero, List.getElem_cons_succ, List.setIfInBounds_toArray, List.set_cons_zero, List.set_cons_succ]
    refine wpAnyH_ready (rs := [8]) (by kernel_rfl) (by simp) ?_
    refine AllReadyH.cons rfl (fun K hK => ?_) AllReadyH.nil
    have HS := Lib.hid (HS.out.swap)
    obtain ⟨wq, hwq⟩ : ∃ z, z = worldOf HS := ⟨_, rfl⟩
    unfold worldOf at hwq
    rw [← hwq] at HS ⊢
    clear hwq x0 x1 x2 x3 x4
    obtain ⟨x0, x1, x2, x3, x4⟩ := box_cells (HBo.out.below HS.out.bel HBo.out.lt)
    obtain ⟨⟨p0, p1, p2, p3, p4⟩, pf, pl⟩ := blk_facts HS.out
    have PF0 := pf 0
    have PF1 := pf 1
    have PF2 := pf 2
    have PF3 := pf 3
    have PF4 := pf 4
    go_simp
    have hq := (((((HS.out.setBlk 0 (.int .i64 8)).setBlk 1 (.int .i64 0)).setBlk 2 (.string ⟨#[]⟩)).setBlk 3 (.slice none 0 0)).setBlk 4 (.slice none 0 0))
    simp only [List.setIfInBounds_toArray, List.set_cons_zero, List.set_cons_succ] at hq
    have HS := Lib.hid (hq.swap)
    clear x0 x1 x2 x3 x4 p0 p1 p2 p3 p4 pf pl PF0 PF1 PF2 PF3 PF4 hq
    obtain ⟨x0, x1, x2, x3, x4⟩ := box_cells (HBo.out.below HS.out.bel HBo.out.lt)
    refine hK.out _ _ (by (try dsimp only); first | exact ⟨x0, x1, x2, x3, x4⟩ | go_keep) (fun hHeld => ?_)
    clear hK K
    try simp only [Act.put, List.getElem_toArray, List.getElem_cons_zero, List.getElem_cons_succ, List.setIfInBounds_toArray, List.set_cons_zero, List.set_cons_succ]
    refine wpAnyH_done (by kernel_rfl) ?_ _
    obtain ⟨W, hW⟩ : ∃ z, z = worldOf HS := ⟨_, rfl⟩
    unfold worldOf at hW
    rw [← hW] at HS ⊢
    clear hW
    obtain ⟨pa, hpa⟩ : ∃ z, z = headOf HS := ⟨_, rfl⟩
    unfold headOf at hpa
    rw [← hpa] at HS ⊢
    have HSw := Lib.hid HS.out.swap
    obtain ⟨pb, hpb⟩ : ∃ z, z = headOf HSw := ⟨_, rfl⟩
    unfold headOf at hpb
    rw [← hpb] at HS ⊢
    clear hpa hpb HSw
    have hn1 : pb ≠ pa := St.blk_neC HS.out
    have hga := St.blk_ge HS.out
    have hgb := St.blk_ge HS.out.swap
    have hlo := HBo.out.lt
    have hn2 : pa ≠ w.heap.size := by omega
    have hn3 : pb ≠ w.heap.size := by omega
    have hn4 := hn1.symm
    have hn5 := hn2.symm
    have hn6 := hn3.symm
    clear x0 x1 x2 x3 x4 hga hgb hlo
    obtain ⟨⟨p0, p1, p2, p3, p4⟩, pf, pl⟩ := blk_facts HS.out
    obtain ⟨⟨q0, q1, q2, q3, q4⟩, qf, ql⟩ := blk_facts HS.out.swap
    obtain ⟨x0, x1, x2, x3, x4⟩ := box_cells (HBo.out.below HS.out.bel HBo.out.lt)
    go_wp2_with (at_builtin; refine wpList_append_elemN _ rfl _ _ 23 rfl 0 9 i0 _ 16 Tryz.underlying23 hi hz0 hz1 hz2 rfl _ l (by rfl) HS.out.bring2.ol x (svl_ok x) _ rfl (by rfl) hby (by omega) (Nat.zero_le _) ?_; intro v7 w7 hown7 hg7 hat7; have h7 := HS.out.bring2.grewOl hown7 hg7 hat7 (by simp); rw [← HO.out] at hown7 h7; obtain ⟨A7, c7, rfl, -, -, -, -⟩ := hown7.form; clear x0 x1 x2 x3 x4 p0 p1 p2 p3 p4 pf pl q0 q1 q2 q3 q4 qf ql; obtain ⟨⟨p0, p1, p2, p3, p4⟩, pf, pl⟩ := blk_facts h7.swap; obtain ⟨⟨q0, q1, q2, q3, q4⟩, qf, ql⟩ := blk_facts h7.bring2; obtain ⟨x0, x1, x2, x3, x4⟩ := box_cells (HBo.out.below h7.bel HBo.out.lt); have hxl := (HBo.out.below h7.bel HBo.out.lt).lt; have PF := pf 4; have QF := qf 4; have h8 := h7.swap.setBlk 4 (.slice A7 O.length c7); simp only [List.setIfInBounds_toArray, List.set_cons_zero, List.set_cons_succ] at h8; have h9 := h8.bring2.setBlk 4 (.slice (some ⟨w7.heap.size, 0, none⟩) 1 1); simp only [List.setIfInBounds_toArray, List.set_cons_zero, List.set_cons_succ] at h9; have h10' := h9.newOl (OL.lit1 _ 9 x (svl_ok x)) ((Below.refl _ _).alloc (Nat.le_refl _) _); rw [show ((w7.setCell ⟨pa, 4, none⟩ (.slice A7 O.length c7)).setCell ⟨pb, 4, none⟩ (.slice (some ⟨w7.heap.size, 0, none⟩) 1 1)).heap.size = w7.heap.size from by simp] at h10'; have h10 := h10'.swap; clear h10'; have H10 := Lib.hid h10; clear hown7 hg7 hat7 h7 h8 h9 h10 HS)
    refine (HCO.out _ (HB.out.trans (H10.out.bel.mono HB.out.size))).mono ?_
    rintro e w11 ⟨D2, d2, D2', d2', rfl, ho2, b11⟩
    have H11 := Lib.hid (H10.out.below b11)
    clear H10 b11 x0 x1 x2 x3 x4 p0 p1 p2 p3 p4 pf pl q0 q1 q2 q3 q4 qf ql PF QF hxl
    go_wp2_with fail
    refine (HPA.out D2 d2 D2' d2' w11 (HB.out.trans (H11.out.bel.mono HB.out.size)) ho2.reads.2.1).mono ?_
    rintro e w12 ⟨rfl, b12⟩
    have H12 := Lib.hid (H11.out.below b12)
    obtain ⟨⟨q0, q1, q2, q3, q4⟩, -, -⟩ := blk_facts H12.out
    clear H11 b12 ho2
    go_wp2_with fail
    refine (HPB.out _ w12 (HB.out.trans (H12.out.bel.mono HB.out.size)) H12.out.swap.ol.reads.2.1).mono ?_
    rintro e w13 ⟨rfl, b13⟩
    have H13 := Lib.hid (H12.out.below b13)
    clear H12 b13 q0 q1 q2 q3 q4
    obtain ⟨⟨p0, p1, p2, p3, p4⟩, -, -⟩ := blk_facts H13.out.bring2
    go_wp2_with fail
    refine (HPC.out _ _ _ _ w13 (HB.out.trans (H13.out.bel.mono HB.out.size)) H13.out.bring3.ol.reads.2.1).mono ?_
    rintro e w14 ⟨rfl, b14⟩
    have H14 := Lib.hid (H13.out.below b14)
    clear H13 b14 p0 p1 p2 p3 p4
    obtain ⟨⟨q0, q1, q2, q3, q4⟩, -, -⟩ := blk_facts H14.out
    go_wp2_with fail
    refine (HC1.out _ w14 (HB.out.trans (H14.out.bel.mono HB.out.size)) H14.out.swap.ol.reads.2.1).mono ?_
    rintro e w15 ⟨rfl, b15⟩
    have H15 := Lib.hid (HB.out.trans ((H14.out.below b15).bel.mono HB.out.size))
    clear H14 b15 q0 q1 q2 q3 q4
    by_cases hE : E = 0
    · subst hE
      obtain ⟨s1, s2, s3, rfl⟩ := E6.out rfl
      have hss := str_self (SA ++ SB.extract 4 SB.size)
      have s4 : (4 : Int) < (SB.size : Int) := by omega
      have hno : ¬ (9223372036854775807 < SA.size + (SB.extract 4 SB.size).size) := by
        have : (SB.extract 4 SB.size).size ≤ SB.size := by rw [ByteArray.size_extract]; omega
        omega
      clear E5 E6
      go_wp2
      go_ret
      exact ⟨rfl, H15.out⟩
    · obtain ⟨rfl, rfl⟩ := E5.out hE
      have hne : (E != 0) = true := by simpa using hE
      have hee : (E == E) = true := by simp
      clear E5 E6
      go_wp2
      go_ret
      exact ⟨rfl, H15.out⟩
  refine AllReadyH.cons rfl (fun K hK => ?_) AllReadyH.nil
  obtain ⟨wq, hwq⟩ : ∃ z, z = worldOf HS := ⟨_, rfl⟩
  unfold worldOf at hwq
  rw [← hwq] at HS ⊢
  clear hwq x0 x1 x2 x3 x4
  obtain ⟨x0, x1, x2, x3, x4⟩ := box_cells (HBo.out.below HS.out.bel HBo.out.lt)
  go_simp
  have HS := Lib.hid (HS.out.newBlk 25 #[.int .i64 0, .int .i64 0, .string ⟨#[]⟩, .slice none 0 0, .slice none 0 0])
  clear x0 x1 x2 x3 x4
  obtain ⟨x0, x1, x2, x3, x4⟩ := box_cells (HBo.out.below HS.out.bel HBo.out.lt)
  refine hK.out _ _ (by (try dsimp only); first | exact ⟨x0, x1, x2, x3, x4⟩ | go_keep) (fun hHeld => ?_)
  clear hK K
  try simp only [Act.put, List.getElem_toArray, List.getElem_cons_zero, List.getElem_cons_succ, List.setIfInBounds_toArray, List.set_cons_zero, List.set_cons_succ]
  refine wpAnyH_ready (rs := [1]) (by kernel_rfl) (by simp) ?_
  refine AllReadyH.cons rfl (fun K hK => ?_) AllReadyH.nil
  obtain ⟨wq, hwq⟩ : ∃ z, z = worldOf HS := ⟨_, rfl⟩
  unfold worldOf at hwq
  rw [← hwq] at HS ⊢
  clear hwq x0 x1 x2 x3 x4
  obtain ⟨x0, x1, x2, x3, x4⟩ := box_cells (HBo.out.below HS.out.bel HBo.out.lt)
  go_simp
  go_at_call 10
  refine (HCO.out _ (HB.out.trans (HS.out.bel.mono HB.out.size))).mono ?_
  rintro e w3 ⟨D, d, D', d', rfl, ho, hb⟩
  have HS := Lib.hid (HS.out.newOl ho hb)
  clear x0 x1 x2 x3 x4 ho hb
  obtain ⟨x0, x1, x2, x3, x4⟩ := box_cells (HBo.out.below HS.out.bel HBo.out.lt)
  refine hK.out _ _ (by (try dsimp only); first | exact ⟨x0, x1, x2, x3, x4⟩ | go_keep) (fun hHeld => ?_)
  clear hK K
  try simp only [Act.put, List.getElem_toArray, List.getElem_cons_zero, List.getElem_cons_succ, List.setIfInBounds_toArray, List.set_cons_zero, List.set_cons_succ]
  refine wpAnyH_ready (rs := [7]) (by kernel_rfl) (by simp) ?_
  refine AllReadyH.cons rfl (fun K hK => ?_) AllReadyH.nil
  have HS := Lib.hid (HS.out.bring2.bring2)
  obtain ⟨wq, hwq⟩ : ∃ z, z = worldOf HS := ⟨_, rfl⟩
  unfold worldOf at hwq
  rw [← hwq] at HS ⊢
  clear hwq x0 x1 x2 x3 x4
  obtain ⟨x0, x1, x2, x3, x4⟩ := box_cells (HBo.out.below HS.out.bel HBo.out.lt)
  obtain ⟨⟨p0, p1, p2, p3, p4⟩, pf, pl⟩ := blk_facts HS.out
  have PF0 := pf 0
  have PF1 := pf 1
  have PF2 := pf 2
  have PF3 := pf 3
  have PF4 := pf 4
  go_simp
  have hq := (((((HS.out.setBlk 0 (.int .i64 8)).setBlk 1 (.int .i64 0)).setBlk 2 (.string ⟨#[]⟩)).setBlk 3 (.slice D' 0 d')).setBlk 4 (.slice D l.length d))
  simp only [List.setIfInBounds_toArray, List.set_cons_zero, List.set_cons_succ] at hq
  have HS := Lib.hid (hq)
  clear x0 x1 x2 x3 x4 p0 p1 p2 p3 p4 pf pl PF0 PF1 PF2 PF3 PF4 hq
  obtain ⟨x0, x1, x2, x3, x4⟩ := box_cells (HBo.out.below HS.out.bel HBo.out.lt)
  refine hK.out _ _ (by (try dsimp only); first | exact ⟨x0, x1, x2, x3, x4⟩ | go_keep) (fun hHeld => ?_)
  clear hK K
  try simp only [Act.put, List.getElem_toArray, List.getElem_cons_zero, List.getElem_cons_succ, List.setIfInBounds_toArray, List.set_cons_zero, List.set_cons_succ]
  refine wpAnyH_ready (rs := [8]) (by kernel_rfl) (by simp) ?_
  refine AllReadyH.cons rfl (fun K hK => ?_) AllReadyH.nil
  have HS := Lib.hid (HS.out.swap)
  obtain ⟨wq, hwq⟩ : ∃ z, z = worldOf HS := ⟨_, rfl⟩
  unfold worldOf at hwq
  rw [← hwq] at HS ⊢
  clear hwq x0 x1 x2 x3 x4
  obtain ⟨x0, x1, x2, x3, x4⟩ := box_cells (HBo.out.below HS.out.bel HBo.out.lt)
  obtain ⟨⟨p0, p1, p2, p3, p4⟩, pf, pl⟩ := blk_facts HS.out
  have PF0 := pf 0
  have PF1 := pf 1
  have PF2 := pf 2
  have PF3 := pf 3
  have PF4 := pf 4
  go_simp
  have hq := (((((HS.out.setBlk 0 (.int .i64 8)).setBlk 1 (.int .i64 0)).setBlk 2 (.string ⟨#[]⟩)).setBlk 3 (.slice none 0 0)).setBlk 4 (.slice none 0 0))
  simp only [List.setIfInBounds_toArray, List.set_cons_zero, List.set_cons_succ] at hq
  have HS := Lib.hid (hq.swap)
  clear x0 x1 x2 x3 x4 p0 p1 p2 p3 p4 pf pl PF0 PF1 PF2 PF3 PF4 hq
  obtain ⟨x0, x1, x2, x3, x4⟩ := box_cells (HBo.out.below HS.out.bel HBo.out.lt)
  refine hK.out _ _ (by (try dsimp only); first | exact ⟨x0, x1, x2, x3, x4⟩ | go_keep) (fun hHeld => ?_)
  clear hK K
  try simp only [Act.put, List.getElem_toArray, List.getElem_cons_zero, List.getElem_cons_succ, List.setIfInBounds_toArray, List.set_cons_zero, List.set_cons_succ]
  refine wpAnyH_done (by kernel_rfl) ?_ _
  obtain ⟨W, hW⟩ : ∃ z, z = worldOf HS := ⟨_, rfl⟩
  unfold worldOf at hW
  rw [← hW] at HS ⊢
  clear hW
  obtain ⟨pa, hpa⟩ : ∃ z, z = headOf HS := ⟨_, rfl⟩
  unfold headOf at hpa
  rw [← hpa] at HS ⊢
  have HSw := Lib.hid HS.out.swap
  obtain ⟨pb, hpb⟩ : ∃ z, z = headOf HSw := ⟨_, rfl⟩
  unfold headOf at hpb
  rw [← hpb] at HS ⊢
  clear hpa hpb HSw
  have hn1 : pb ≠ pa := St.blk_neC HS.out
  have hga := St.blk_ge HS.out
  have hgb := St.blk_ge HS.out.swap
  have hlo := HBo.out.lt
  have hn2 : pa ≠ w.heap.size := by omega
  have hn3 : pb ≠ w.heap.size := by omega
  have hn4 := hn1.symm
  have hn5 := hn2.symm
  have hn6 := hn3.symm
  clear x0 x1 x2 x3 x4 hga hgb hlo
  obtain ⟨⟨p0, p1, p2, p3, p4⟩, pf, pl⟩ := blk_facts HS.out
  obtain ⟨⟨q0, q1, q2, q3, q4⟩, qf, ql⟩ := blk_facts HS.out.swap
  obtain ⟨x0, x1, x2, x3, x4⟩ := box_cells (HBo.out.below HS.out.bel HBo.out.lt)
  go_wp2_with (at_builtin; refine wpList_append_elemN _ rfl _ _ 23 rfl 0 9 i0 _ 16 Tryz.underlying23 hi hz0 hz1 hz2 rfl _ l (by rfl) HS.out.bring2.ol x (svl_ok x) _ rfl (by rfl) hby (by omega) (Nat.zero_le _) ?_; intro v7 w7 hown7 hg7 hat7; have h7 := HS.out.bring2.grewOl hown7 hg7 hat7 (by simp); rw [← HO.out] at hown7 h7; obtain ⟨A7, c7, rfl, -, -, -, -⟩ := hown7.form; clear x0 x1 x2 x3 x4 p0 p1 p2 p3 p4 pf pl q0 q1 q2 q3 q4 qf ql; obtain ⟨⟨p0, p1, p2, p3, p4⟩, pf, pl⟩ := blk_facts h7.swap; obtain ⟨⟨q0, q1, q2, q3, q4⟩, qf, ql⟩ := blk_facts h7.bring2; obtain ⟨x0, x1, x2, x3, x4⟩ := box_cells (HBo.out.below h7.bel HBo.out.lt); have hxl := (HBo.out.below h7.bel HBo.out.lt).lt; have PF := pf 4; have QF := qf 4; have h8 := h7.swap.setBlk 4 (.slice A7 O.length c7); simp only [List.setIfInBounds_toArray, List.set_cons_zero, List.set_cons_succ] at h8; have h9 := h8.bring2.setBlk 4 (.slice (some ⟨w7.heap.size, 0, none⟩) 1 1); simp only [List.setIfInBounds_toArray, List.set_cons_zero, List.set_cons_succ] at h9; have h10' := h9.newOl (OL.lit1 _ 9 x (svl_ok x)) ((Below.refl _ _).alloc (Nat.le_refl _) _); rw [show ((w7.setCell ⟨pa, 4, none⟩ (.slice A7 O.length c7)).setCell ⟨pb, 4, none⟩ (.slice (some ⟨w7.heap.size, 0, none⟩) 1 1)).heap.size = w7.heap.size from by simp] at h10'; have h10 := h10'.swap; clear h10'; have H10 := Lib.hid h10; clear hown7 hg7 hat7 h7 h8 h9 h10 HS)
  refine (HCO.out _ (HB.out.trans (H10.out.bel.mono HB.out.size))).mono ?_
  rintro e w11 ⟨D2, d2, D2', d2', rfl, ho2, b11⟩
  have H11 := Lib.hid (H10.out.below b11)
  clear H10 b11 x0 x1 x2 x3 x4 p0 p1 p2 p3 p4 pf pl q0 q1 q2 q3 q4 qf ql PF QF hxl
  go_wp2_with fail
  refine (HPA.out D2 d2 D2' d2' w11 (HB.out.trans (H11.out.bel.mono HB.out.size)) ho2.reads.2.1).mono ?_
  rintro e w12 ⟨rfl, b12⟩
  have H12 := Lib.hid (H11.out.below b12)
  obtain ⟨⟨q0, q1, q2, q3, q4⟩, -, -⟩ := blk_facts H12.out
  clear H11 b12 ho2
  go_wp2_with fail
  refine (HPB.out _ w12 (HB.out.trans (H12.out.bel.mono HB.out.size)) H12.out.swap.ol.reads.2.1).mono ?_
  rintro e w13 ⟨rfl, b13⟩
  have H13 := Lib.hid (H12.out.below b13)
  clear H12 b13 q0 q1 q2 q3 q4
  obtain ⟨⟨p0, p1, p2, p3, p4⟩, -, -⟩ := blk_facts H13.out.bring2
  go_wp2_with fail
  refine (HPC.out _ _ _ _ w13 (HB.out.trans (H13.out.bel.mono HB.out.size)) H13.out.bring3.ol.reads.2.1).mono ?_
  rintro e w14 ⟨rfl, b14⟩
  have H14 := Lib.hid (H13.out.below b14)
  clear H13 b14 p0 p1 p2 p3 p4
  obtain ⟨⟨q0, q1, q2, q3, q4⟩, -, -⟩ := blk_facts H14.out
  go_wp2_with fail
  refine (HC1.out _ w14 (HB.out.trans (H14.out.bel.mono HB.out.size)) H14.out.swap.ol.reads.2.1).mono ?_
  rintro e w15 ⟨rfl, b15⟩
  have H15 := Lib.hid (HB.out.trans ((H14.out.below b15).bel.mono HB.out.size))
  clear H14 b15 q0 q1 q2 q3 q4
  by_cases hE : E = 0
  · subst hE
    obtain ⟨s1, s2, s3, rfl⟩ := E6.out rfl
    have hss := str_self (SA ++ SB.extract 4 SB.size)
    have s4 : (4 : Int) < (SB.size : Int) := by omega
    have hno : ¬ (9223372036854775807 < SA.size + (SB.extract 4 SB.size).size) := by
      have : (SB.extract 4 SB.size).size ≤ SB.size := by rw [ByteArray.size_extract]; omega
      omega
    clear E5 E6
    go_wp2
    go_ret
    exact ⟨rfl, H15.out⟩
  · obtain ⟨rfl, rfl⟩ := E5.out hE
    have hne : (E != 0) = true := by simpa using hE
    have hee : (E == E) = true := by simp
    clear E5 E6
    go_wp2
    go_ret
    exact ⟨rfl, H15.out⟩
end Go.Proofs.YthfoffcfbfmajaaGreatDoor
