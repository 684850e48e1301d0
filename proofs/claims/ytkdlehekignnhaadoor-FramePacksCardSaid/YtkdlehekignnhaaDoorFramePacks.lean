/- Any frame is packed, or refused, as the document says; it stays. The table of nibbles stands as the program's text lays it (the card ties it). -/
import Derived.Test.YtkdlehekignnhaaDoorOpen
import Derived.Test.YtkdlehekignnhaaDoorCards
import Derived.Test.YtkdlehekignnhaaDoorTie
import Derived.Deep.DeepHandedRow
import Derived.Lib.LaidTab
import Derived.Test.YtkdlehekignnhaaDoorFrLaw
import Derived.Test.YtkdlehekignnhaaDoorFrOpen
namespace Go.Proofs.YtkdlehekignnhaaDoor.framePacks
open Go.ChangeShapes Go.WideShapes Go.ChangeAt Go.RowKit
open Go.ChangeMaps (open_string shut_string)
set_option linter.unusedVariables false
set_option linter.unusedSimpArgs false

set_option maxRecDepth 100000 in
set_option maxHeartbeats 2000000 in
theorem walk (w : World) (hT : TabW w) {t : Int} {A : Option Addr} {c : Nat} {d : List Nat} (hx : (-9223372036854775808 ≤ t ∧ t ≤ 9223372036854775807) ∧ (RB w w.heap.size A d ∧ d.length ≤ c ∧ c ≤ 140737488351232)) :
    Calls Tryd.prog 4 #[.agg #[.int .i64 t, .slice A d.length c]] w fun e w' => e = .returned (.bool true) ∧ Below w.heap.size w w' := by
  have h0 := (St.start Zf w).newBlk 25 #[.int .i64 t, .slice A d.length c]
  obtain ⟨ht, hr, hc, hm⟩ := hx
  have HT := Lib.hid hT
  have HR := Lib.hid hr
  have HL : Hid (d.length ≤ 140737488351232) := Lib.hid (by omega)
  have HL2 : Hid (d.length ≤ 140737488355328) := Lib.hid (by omega)
  have HLm : Hid (d.length ≤ maxLen) := Lib.hid (by unfold maxLen; omega)
  have HPL : Hid ((packB t d).length ≤ maxLen) := Lib.hid (by
    unfold packB maxLen
    split
    · rw [fbytes_len]
      omega
    · exact Nat.zero_le _)
  have H0 := Lib.hid h0
  clear h0 hr hc hm ht
  go_enter Tryd.func4, Tryd.ntmps4
  go_wp2_with fail
  refine (speaks19_any _ (hT.below H0.out.bel hT.1)).mono ?_
  rintro e w1 ⟨rfl, hb1⟩
  have h1 := H0.out.below hb1
  obtain ⟨c0, c1⟩ := cells2 h1
  have HSA := Lib.hid h1.drew
  have HSB : Hid (St Zf [BlkA w1.heap.size 25 #[.int .i64 0, .slice none 0 0], BlkA w.heap.size 25 #[.int .i64 t, .slice A d.length c]] w (w1.drew.alloc (.cells #[.int .i64 0, .slice none 0 0] 25))) := Lib.hid (h1.drew.newBlk 25 #[.int .i64 0, .slice none 0 0])
  have hsz := h1.blk.lt
  clear h1 hb1 hT H0
  go_wp2_with fail
  refine wp_region_held_drew (S := (fun w' => w'.cell? ⟨w.heap.size, 0, none⟩ = some (.int .i64 t) ∧ w'.cell? ⟨w.heap.size, 1, none⟩ = some (.slice A d.length c))) (by kernel_rfl) (by (try dsimp only); first | with_reducible exact ⟨q0, q1⟩ | with_reducible exact ⟨m0, m1⟩ | go_keep) (fun hHeld => ?_)
  refine wpAnyH_take (i := 0) (v := ?_) rfl (by kernel_rfl) (by kernel_rfl) (by kernel_rfl) (fun _ _ _ h => h) (Or.inl ⟨by rfl, ?_⟩) (by assumption) ?_
  rotate_left
  · (intro w hSw; (try dsimp only at hSw); go_simp; try with_reducible rfl)
  try simp only [Act.put, List.getElem_toArray, List.getElem_cons_zero, List.getElem_cons_succ, List.setIfInBounds_toArray, List.set_cons_zero, List.set_cons_succ]
  refine wpAnyH_take (i := 1) (v := ?_) rfl (by kernel_rfl) (by kernel_rfl) (by kernel_rfl) (fun _ _ _ h => h) (Or.inl ⟨by rfl, ?_⟩) (by assumption) ?_
  rotate_left
  · (intro w hSw; (try dsimp only at hSw); go_simp; try with_reducible rfl)
  try simp only [Act.put, List.getElem_toArray, List.getElem_cons_zero, List.getElem_cons_succ, List.setIfInBounds_toArray, List.set_cons_zero, List.set_cons_succ]
  refine wpAnyH_take (i := 2) (v := ?_) rfl (by kernel_rfl) (by kernel_rfl) (by kernel_rfl) (fun _ _ _ h => h) (Or.inl ⟨by rfl, ?_⟩) (by assumption) ?_
  rotate_left
  · (intro w hSw; (try dsimp only at hSw); go_simp; try with_reducible rfl)
  try simp only [Act.put, List.getElem_toArray, List.getElem_cons_zero, List.getElem_cons_succ, List.setIfInBounds_toArray, List.set_cons_zero, List.set_cons_succ]
  refine wpAnyH_take (i := 3) (v := ?_) rfl (by kernel_rfl) (by kernel_rfl) (by kernel_rfl) (fun _ _ _ h => h) (Or.inl ⟨by rfl, ?_⟩) (by assumption) ?_
  rotate_left
  · (intro w hSw; (try dsimp only at hSw); go_simp; try with_reducible rfl)
  try simp only [Act.put, List.getElem_toArray, List.getElem_cons_zero, List.getElem_cons_succ, List.setIfInBounds_toArray, List.set_cons_zero, List.set_cons_succ]
  refine wpAnyH_ready (rs := [4, 6]) (by kernel_rfl) (by simp) ?_
  refine AllReadyH.cons rfl (fun K hK => ?_) ?_
  · go_simp
    go_at_call 12
    refine (cloneA HSA.out (cap := c) (HR.out.below' HSA.out.bel (Nat.le_refl _)) HSA.out.size HL2.out).mono ?_
    rintro e w2 ⟨A2, c2, rfl, hc2, hm2, h2⟩
    have hk := h2.drop.blk
    have m0 : w2.cell? ⟨w.heap.size, 0, none⟩ = some (.int .i64 t) := (by rw [hk.cell 0]; rfl)
    have m1 : w2.cell? ⟨w.heap.size, 1, none⟩ = some (.slice A d.length c) := (by rw [hk.cell 1]; rfl)
    refine hK.out _ _ (by (try dsimp only); first | with_reducible exact ⟨q0, q1⟩ | with_reducible exact ⟨m0, m1⟩ | go_keep) (fun hHeld => ?_)
    clear hK K
    try simp only [Act.put, List.getElem_toArray, List.getElem_cons_zero, List.getElem_cons_succ, List.setIfInBounds_toArray, List.set_cons_zero, List.set_cons_succ]
    refine wpAnyH_take (i := 5) (v := ?_) rfl (by kernel_rfl) (by kernel_rfl) (by kernel_rfl) (fun _ _ _ h => h) (Or.inl ⟨by rfl, ?_⟩) (by assumption) ?_
    rotate_left
    · (intro w hSw; (try dsimp only at hSw); go_simp; try with_reducible rfl)
    try simp only [Act.put, List.getElem_toArray, List.getElem_cons_zero, List.getElem_cons_succ, List.setIfInBounds_toArray, List.set_cons_zero, List.set_cons_succ]
    refine wpAnyH_ready (rs := [6]) (by kernel_rfl) (by simp) ?_
    refine AllReadyH.cons rfl (fun K hK => ?_) AllReadyH.nil
    go_simp
    refine hK.out _ _ (by (try dsimp only); first | with_reducible exact ⟨q0, q1⟩ | with_reducible exact ⟨m0, m1⟩ | go_keep) (fun hHeld => ?_)
    clear hK K
    try simp only [Act.put, List.getElem_toArray, List.getElem_cons_zero, List.getElem_cons_succ, List.setIfInBounds_toArray, List.set_cons_zero, List.set_cons_succ]
    refine wpAnyH_ready (rs := [7]) (by kernel_rfl) (by simp) ?_
    refine AllReadyH.cons rfl (fun K hK => ?_) AllReadyH.nil
    have h3 := h2.newBlk 25 #[.int .i64 0, .slice none 0 0]
    have h4 := (h3.setRowL #[.int .i64 t, .slice A2 d.length c2])
    have hgi := h3.blk
    refine step_store_row (by rfl) 25 _ _ (by rfl) w2.heap.size #[.int .i64 t, .slice A2 d.length c2] (by rfl) (by rfl) 25 _ hgi (by kernel_rfl) rfl (by rw [← Array.all_toList]; rfl) ?_
    obtain ⟨W4, hW4⟩ : ∃ q, q = World.setRow (w2.alloc (.cells #[.int .i64 0, .slice none 0 0] 25)) w2.heap.size #[.int .i64 t, .slice A2 d.length c2] := ⟨_, rfl⟩
    rw [← hW4] at h4 ⊢
    obtain ⟨q0, q1⟩ := cells2 h4.bring2
    obtain ⟨i0, i1⟩ := cells2 h4
    have H4 := Lib.hid h4
    clear h4 h3 hgi h2 hW4 m0 m1
    refine hK.out _ _ (by (try dsimp only); first | with_reducible exact ⟨q0, q1⟩ | with_reducible exact ⟨m0, m1⟩ | go_keep) (fun hHeld => ?_)
    clear hK K
    try simp only [Act.put, List.getElem_toArray, List.getElem_cons_zero, List.getElem_cons_succ, List.setIfInBounds_toArray, List.set_cons_zero, List.set_cons_succ]
    refine wpAnyH_done (by kernel_rfl) ?_ _
    go_wp2_with fail
    refine (Pack_any t A2 c2 _ d W4 (HT.out.below H4.out.bel HT.out.1) H4.out.swap.obR.2.2.2 (Nat.le_refl _) HL.out).mono ?_
    rintro e w5 ⟨v5, rfl, h5⟩
    have h6 := H4.out.addStL h5
    obtain ⟨A5, c5, rfl, -, -, -⟩ := h6.obForm rfl
    obtain ⟨p0, p1⟩ := cells2 h6.bring3
    have H6 := Lib.hid h6
    clear h5 h6 q0 q1 i0 i1
    go_wp2_with fail
    refine (refPack_any t A c _ d w5 (HR.out.below' H6.out.bel (Nat.le_refl _)) H6.out.size HL.out).mono ?_
    rintro e w7 ⟨v7, rfl, h7⟩
    have h8 := H6.out.addStL h7
    obtain ⟨A7, c7, rfl, -, -, hr7⟩ := h8.obForm rfl
    obtain ⟨-, -, -, hr5⟩ := h8.swap.obR
    obtain ⟨q0, q1⟩ := cells2 h8.bring4
    obtain ⟨i0, i1⟩ := cells2 h8.bring2
    have H8 := Lib.hid h8
    have HS := Lib.hid (same_yes A5 A7 _ c5 c7 _ _ (packB t d) w7 hr5 hr7 rfl HPL.out)
    clear h7 h8 p0 p1 hr5 hr7 H6
    go_wp2_with fail
    refine HS.out.mono ?_
    rintro e w9 ⟨rfl, q9, hw9⟩
    have h9 := H8.out.drewN q9
    rw [← hw9] at h9
    obtain ⟨q0', q1'⟩ := cells2 h9.bring4
    obtain ⟨i0', i1'⟩ := cells2 h9.bring2
    have H9 := Lib.hid h9
    have HSm := Lib.hid (refSame_any t t A2 A c2 c _ _ d d w9 h9.bring3.obR.2.2.2 (Nat.le_refl _) (HR.out.below' h9.bel (Nat.le_refl _)) h9.size HLm.out HLm.out)
    simp only [fragg, and_self, decide_true] at HSm
    clear h9 hw9 q0 q1 i0 i1 H8 HS
    go_wp2_with fail
    refine HSm.out.mono ?_
    rintro e w10 ⟨rfl, hb10⟩
    have HE := Lib.hid (H9.out.below hb10).bel
    clear hb10
    go_wp2_with fail
    go_ret
    exact ⟨rfl, HE.out⟩
  refine AllReadyH.cons rfl (fun K hK => ?_) AllReadyH.nil
  go_simp
  refine hK.out _ _ (by (try dsimp only); first | with_reducible exact ⟨q0, q1⟩ | with_reducible exact ⟨m0, m1⟩ | go_keep) (fun hHeld => ?_)
  clear hK K
  try simp only [Act.put, List.getElem_toArray, List.getElem_cons_zero, List.getElem_cons_succ, List.setIfInBounds_toArray, List.set_cons_zero, List.set_cons_succ]
  refine wpAnyH_ready (rs := [4]) (by kernel_rfl) (by simp) ?_
  refine AllReadyH.cons rfl (fun K hK => ?_) AllReadyH.nil
  go_simp
  go_at_call 12
  refine (cloneA HSB.out (cap := c) (HR.out.below' HSB.out.bel (Nat.le_refl _)) HSB.out.size HL2.out).mono ?_
  rintro e w2 ⟨A2, c2, rfl, hc2, hm2, h2⟩
  have hk := h2.drop.drop.blk
  have m0 : w2.cell? ⟨w.heap.size, 0, none⟩ = some (.int .i64 t) := (by rw [hk.cell 0]; rfl)
  have m1 : w2.cell? ⟨w.heap.size, 1, none⟩ = some (.slice A d.length c) := (by rw [hk.cell 1]; rfl)
  refine hK.out _ _ (by (try dsimp only); first | with_reducible exact ⟨q0, q1⟩ | with_reducible exact ⟨m0, m1⟩ | go_keep) (fun hHeld => ?_)
  clear hK K
  try simp only [Act.put, List.getElem_toArray, List.getElem_cons_zero, List.getElem_cons_succ, List.setIfInBounds_toArray, List.set_cons_zero, List.set_cons_succ]
  refine wpAnyH_take (i := 5) (v := ?_) rfl (by kernel_rfl) (by kernel_rfl) (by kernel_rfl) (fun _ _ _ h => h) (Or.inl ⟨by rfl, ?_⟩) (by assumption) ?_
  rotate_left
  · (intro w hSw; (try dsimp only at hSw); go_simp; try with_reducible rfl)
  try simp only [Act.put, List.getElem_toArray, List.getElem_cons_zero, List.getElem_cons_succ, List.setIfInBounds_toArray, List.set_cons_zero, List.set_cons_succ]
  refine wpAnyH_ready (rs := [7]) (by kernel_rfl) (by simp) ?_
  refine AllReadyH.cons rfl (fun K hK => ?_) AllReadyH.nil
  have h3 := h2.swap
  have h4 := (h3.setRowL #[.int .i64 t, .slice A2 d.length c2])
  have hgi := h3.blk
  refine step_store_row (by rfl) 25 _ _ (by rfl) w1.heap.size #[.int .i64 t, .slice A2 d.length c2] (by rfl) (by rfl) 25 _ hgi (by kernel_rfl) rfl (by rw [← Array.all_toList]; rfl) ?_
  obtain ⟨W4, hW4⟩ : ∃ q, q = World.setRow w2 w1.heap.size #[.int .i64 t, .slice A2 d.length c2] := ⟨_, rfl⟩
  rw [← hW4] at h4 ⊢
  obtain ⟨q0, q1⟩ := cells2 h4.bring2
  obtain ⟨i0, i1⟩ := cells2 h4
  have H4 := Lib.hid h4
  clear h4 h3 hgi h2 hW4 m0 m1
  refine hK.out _ _ (by (try dsimp only); first | with_reducible exact ⟨q0, q1⟩ | with_reducible exact ⟨m0, m1⟩ | go_keep) (fun hHeld => ?_)
  clear hK K
  try simp only [Act.put, List.getElem_toArray, List.getElem_cons_zero, List.getElem_cons_succ, List.setIfInBounds_toArray, List.set_cons_zero, List.set_cons_succ]
  refine wpAnyH_done (by kernel_rfl) ?_ _
  go_wp2_with fail
  refine (Pack_any t A2 c2 _ d W4 (HT.out.below H4.out.bel HT.out.1) H4.out.swap.obR.2.2.2 (Nat.le_refl _) HL.out).mono ?_
  rintro e w5 ⟨v5, rfl, h5⟩
  have h6 := H4.out.addStL h5
  obtain ⟨A5, c5, rfl, -, -, -⟩ := h6.obForm rfl
  obtain ⟨p0, p1⟩ := cells2 h6.bring3
  have H6 := Lib.hid h6
  clear h5 h6 q0 q1 i0 i1
  go_wp2_with fail
  refine (refPack_any t A c _ d w5 (HR.out.below' H6.out.bel (Nat.le_refl _)) H6.out.size HL.out).mono ?_
  rintro e w7 ⟨v7, rfl, h7⟩
  have h8 := H6.out.addStL h7
  obtain ⟨A7, c7, rfl, -, -, hr7⟩ := h8.obForm rfl
  obtain ⟨-, -, -, hr5⟩ := h8.swap.obR
  obtain ⟨q0, q1⟩ := cells2 h8.bring4
  obtain ⟨i0, i1⟩ := cells2 h8.bring2
  have H8 := Lib.hid h8
  have HS := Lib.hid (same_yes A5 A7 _ c5 c7 _ _ (packB t d) w7 hr5 hr7 rfl HPL.out)
  clear h7 h8 p0 p1 hr5 hr7 H6
  go_wp2_with fail
  refine HS.out.mono ?_
  rintro e w9 ⟨rfl, q9, hw9⟩
  have h9 := H8.out.drewN q9
  rw [← hw9] at h9
  obtain ⟨q0', q1'⟩ := cells2 h9.bring4
  obtain ⟨i0', i1'⟩ := cells2 h9.bring2
  have H9 := Lib.hid h9
  have HSm := Lib.hid (refSame_any t t A2 A c2 c _ _ d d w9 h9.bring3.obR.2.2.2 (Nat.le_refl _) (HR.out.below' h9.bel (Nat.le_refl _)) h9.size HLm.out HLm.out)
  simp only [fragg, and_self, decide_true] at HSm
  clear h9 hw9 q0 q1 i0 i1 H8 HS
  go_wp2_with fail
  refine HSm.out.mono ?_
  rintro e w10 ⟨rfl, hb10⟩
  have HE := Lib.hid (H9.out.below hb10).bel
  clear hb10
  go_wp2_with fail
  go_ret
  exact ⟨rfl, HE.out⟩

/-! ### THE ROW's STEP -/
theorem own : ownKnob Tryd.prog.godebug = none := by kernel_rfl
theorem laidOut : laidOutB Tryd.prog = true := by kernel_rfl
theorem gTab0 : Tryd.prog.globalNamed "satchel/crc.nibbles" = some 0 := by kernel_rfl
theorem gTabType0 : (Tryd.prog.globals[0]?).map (·.type) = some 87 := by kernel_rfl
theorem cellsTab0 : Tryd.prog.cellsOf 87 = 16 := by kernel_rfl
theorem cellsElem0 : Tryd.prog.cellsOf 66 = 1 := by kernel_rfl
theorem table0 {W : World} (h : laidMetH Tryd.prog Rows.framePacksRow.laid W) : Lib.TabIs Tryd.prog W "satchel/crc.nibbles" .u32 [0, 498536548, 997073096, 651767980, 1994146192, 1802195444, 1303535960, 1342533948, 3988292384, 4027552580, 3604390888, 3412177804, 2607071920, 2262029012, 2685067896, 3183342108] :=
  Lib.tabIs_of_head gTab0 gTabType0 Tryd.underlying87 Tryd.underlying66 cellsElem0 cellsTab0 h

set_option maxRecDepth 100000 in
theorem contract (H : Type) (enc : TypeId × Value → H) (W : World) (base : Nat) (args : Array Value) (ds gs : List (DataW H)) (before : List MemPlace)
    (hval0 : ∀ (j : Nat) t v, Tryd.f4.params[j]? = some t → args[j]? = some v → Value.okWide Tryd.prog W .any base t v)
    (hW : DataW.Whole enc Tryd.prog Tryd.f4.params.toList Rows.framePacksSpec.vars false W args.toList ds gs before)
    (hsz : (DataW.weightsEach Tryd.prog (Tryd.f4.params.toList ++ (OpenSpec.ofChange Rows.framePacksSpec).bare.plain.varTypes Tryd.prog) (ds ++ gs)).all (· ≤ reachBytes) = true) (hL : laidMetH Tryd.prog Rows.framePacksRow.laid W) :
    Calls Tryd.prog 4 args W fun e W' => ∃ v, e = .returned v ∧ Rows.framePacksSpec.post enc Tryd.prog Tryd.f4 false true false false W args v W' := by
  have hval : ∀ (j : Nat) t v, Tryd.f4.params[j]? = some t → args[j]? = some v → Value.okWide Tryd.prog W .any base t v := hval0
  have hW' := hW
  obtain ⟨p, q, hA0, hV, rfl, hfz, hnd⟩ := hW
  have hA : DataW.TrodAll enc Tryd.prog W 0 (fun _ => true) true Tryd.f4.params.toList args.toList ds p := hA0
  rw [Tryd.params4] at hA hval
  obtain ⟨v0, vs0, d0, ds0, p0, q0, hargs, rfl, rfl, h0, r0⟩ := trodAll_cons hA
  obtain ⟨rfl, rfl, rfl⟩ := trodAll_nil r0
  obtain rfl : args = #[v0] := by cases args; simp_all
  obtain ⟨rfl, rfl⟩ := trodVars_none hV
  have k0 := h0
  have lt0 : ∀ x ∈ p0, x.block < W.heap.size := by obtain ⟨m, hm⟩ := k0; exact DataW.trod_lt m _ _ _ hm
  have w0 := reach_at hsz (j := 0) rfl rfl
  clear hA0 hval0 hsz
  have hT := tabW_of fun i hi => (table0 hL).cell gTab0 i hi
  obtain ⟨t0, A0, c0, d0, rfl, hx0⟩ := open_frame (hval 0 _ v0 rfl rfl) w0 h0 lt0
  refine (walk W hT hx0).mono fun e W' ⟨he, bel⟩ => ?_
  subst he
  exact ⟨_, rfl, _, _, _, [], _, [], hW', trodAll_mk1 (shut_bool Tryd.underlying4 _), (trodAll_cons_mk (Below.trod laidOut (by kernel_rfl) (of_decide_eq_true (by kernel_rfl)) k0 bel lt0) trodAll_mk0), rfl, bel.frame _, fun h => by cases h⟩

/-- a world for the witness: the settled one, the tables holding what their initialisers lay -/
noncomputable def laidWorld (os : Os) : World :=
  { World.holding Tryd.prog os ⟨#[], #[], []⟩ with heap := ((World.holding Tryd.prog os ⟨#[], #[], []⟩).heap.modify 0 (fun | .cells _ t frozen => .cells #[.int .u32 0, .int .u32 498536548, .int .u32 997073096, .int .u32 651767980, .int .u32 1994146192, .int .u32 1802195444, .int .u32 1303535960, .int .u32 1342533948, .int .u32 3988292384, .int .u32 4027552580, .int .u32 3604390888, .int .u32 3412177804, .int .u32 2607071920, .int .u32 2262029012, .int .u32 2685067896, .int .u32 3183342108] t frozen | o => o)) }
theorem laid_met (os : Os) : laidMet Tryd.prog Rows.framePacksRow.laid ((laidWorld os).forCall (fun _ _ => 0) ⟨#[], #[.agg #[.int .i64 0, .slice none 0 0]], []⟩).memory :=
  laidMet_of_run' 8 (by kernel_rfl) (by kernel_rfl)
theorem reads (os : Os) {H : Type} (enc : TypeId × Value → H) : ∃ places, DataW.whole enc Tryd.prog ((laidWorld os).forCall (fun _ _ => 0) ⟨#[], #[.agg #[.int .i64 0, .slice none 0 0]], []⟩).memory Tryd.f4.params.toList Rows.framePacksSpec.vars false (#[.agg #[.int .i64 0, .slice none 0 0]] : Array Value).toList 8 = some ([.agg [.lit (.int .i64 0), .nil]], [], places) :=
  ⟨[], by kernel_rfl⟩

set_option maxRecDepth 100000 in
theorem lifted (os : Os) (started : os.Started) (H : Type) (enc : TypeId × Value → H) (F : Stop.Interp) :
    ReturnsInHanded {} Tryd.checked os 4 .any ((OpenSpec.ofChange Rows.framePacksSpec).preRow enc Tryd.prog Tryd.f4 Rows.framePacksRow.domain false Rows.framePacksRow.laid) (((OpenSpec.ofChange Rows.framePacksSpec).at F).post enc Tryd.prog Tryd.f4 false true false false) := by
  obtain ⟨places, hx⟩ := reads os enc
  refine returnsInHanded_of_row (C := Tryd.checked) (s := (OpenSpec.ofChange Rows.framePacksSpec)) own started (by kernel_rfl) Tryd.func4
    (witness_row_at (enc := enc) (C := Tryd.checked) false (laidWorld os) #[.agg #[.int .i64 0, .slice none 0 0]] rfl (by kernel_rfl) (by kernel_rfl) (by kernel_rfl)
      (OpenSpec.preRow_of_cond 8 hx (by kernel_rfl) (fun k hk => by cases hk) (by kernel_rfl) (laid_met os))) ?_
  intro W base args ds gs before hval hW _ hcond hsz hL _ _
  exact contract H enc W base args ds gs before hval hW hsz hL

theorem said : Rows.FramePacksSaid :=
  OpenClaim.holds_of_cond 4 Tryd.f4 rfl rfl rfl rfl rfl rfl rfl ⟨rfl, rfl, rfl, rfl, rfl⟩ rfl rfl rfl rfl rfl (by kernel_rfl) Tryd.func4 (by kernel_rfl)
    (of_decide_eq_true (by kernel_rfl)) (by unfold Func.isWrapper; rw [if_neg (of_decide_eq_false (by kernel_rfl))]; exact ⟨rfl, rfl⟩)
    (fun os started H enc _ F => by rw [OpenClaim.pre_eq_preRow]; exact lifted os started H enc F)

theorem noStandIn : ∀ t ∈ ([25] : List TypeId), Tryd.prog.wantsStandIn t = false := by
  intro t ht
  simp only [List.mem_cons, List.not_mem_nil, or_false] at ht
  rcases ht with rfl
  · exact (show Tryd.prog.wantsStandIn 25 = false by kernel_rfl)
theorem plain (f : FuncId) (fn : Func) (hf : Tryd.pinned.checked.prog.funcNamed "satchel/satchellaw19.FramePacks" = some f) (hfn : Tryd.pinned.checked.prog.funcs[f]? = some fn) :
    false = Tryd.pinned.checked.prog.looks [] ∧ ∀ (j : Nat) t, fn.params[j]? = some t → Tryd.pinned.checked.prog.wantsStandIn t = false := by
  obtain rfl : f = 4 := Option.some.inj ((show Tryd.prog.funcNamed "satchel/satchellaw19.FramePacks" = some 4 by kernel_rfl).symm.trans hf) |>.symm
  obtain rfl : fn = Tryd.f4 := (Option.some.inj (Tryd.func4.symm.trans hfn)).symm
  refine ⟨by kernel_rfl, fun j t ht => ?_⟩
  rw [Tryd.params4] at ht
  exact noStandIn t (by simpa using Array.mem_of_getElem? ht)

/-- THE CARD -/
theorem proved : Rows.FramePacksCardSaid :=
  Claim7.holds_tied_plain_at .later [] _ _ _ _ said (fun _ h => by cases h) (by kernel_rfl) (fun _ h => by cases h) framePacks_row_tie rfl ⟨rfl, rfl⟩ (by kernel_rfl) rfl plain (by kernel_rfl)
end Go.Proofs.YtkdlehekignnhaaDoor.framePacks
