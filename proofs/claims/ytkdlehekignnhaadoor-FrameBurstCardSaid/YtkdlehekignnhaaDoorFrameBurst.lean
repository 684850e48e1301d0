/- Whatever is turned within four neighbouring bytes of a frame, not among those of type and length, is told. The table of nibbles stands as the program's text lays it (the card ties it). -/
import Derived.Test.YtkdlehekignnhaaDoorOpen
import Derived.Test.YtkdlehekignnhaaDoorCards
import Derived.Test.YtkdlehekignnhaaDoorTie
import Derived.Deep.DeepHandedRow
import Derived.Lib.LaidTab
import Derived.Test.YtkdlehekignnhaaDoorFrBurst
import Derived.Test.YtkdlehekignnhaaDoorFrOpen
import Derived.Test.YtkdlehekignnhaaDoorSpoil
import Derived.RegionTactic
import Derived.BigRegion
namespace Go.Proofs.YtkdlehekignnhaaDoor.frameBurst
open Go.ChangeShapes Go.WideShapes Go.ChangeAt Go.RowKit
open Go.ChangeMaps (open_string shut_string)
set_option linter.unusedVariables false
set_option linter.unusedSimpArgs false

theorem xor8 (a b : Nat) (ha : a < 256) (hb : b < 256) : bits .xor .u8 (a : Int) (b : Int) = ((a ^^^ b : Nat) : Int) := u8_xor_nat a b ha hb
theorem xor_lt8 {a b : Nat} (ha : a < 256) (hb : b < 256) : a ^^^ b < 256 := Nat.xor_lt_two_pow (n := 8) ha hb
set_option maxRecDepth 100000 in
set_option maxHeartbeats 2000000 in
theorem walk (w : World) (hT : TabW w) {t : Int} {A : Option Addr} {c : Nat} {d : List Nat} (hx : (-9223372036854775808 ≤ t ∧ t ≤ 9223372036854775807) ∧ (RB w w.heap.size A d ∧ d.length ≤ c ∧ c ≤ 140737488351232))
    {at_ : Int} (hat : -9223372036854775808 ≤ at_ ∧ at_ ≤ 9223372036854775807)
    {B : Option Addr} {cap2 : Nat} {ts : List Nat} (r2 : RB w w.heap.size B ts) (hc2 : ts.length ≤ cap2) (hm2 : cap2 ≤ 140737488351232) :
    Calls Tryd.prog 9 #[.agg #[.int .i64 t, .slice A d.length c], .int .i64 at_, .slice B ts.length cap2] w fun e w' => e = .returned (.bool true) ∧ Below w.heap.size w w' := by
  have h0 := (St.start Zf w).newBlk 25 #[.int .i64 t, .slice A d.length c]
  obtain ⟨ht, hr, hc, hm⟩ := hx
  have HT := Lib.hid hT
  have HR := Lib.hid hr
  have HR2 := Lib.hid r2
  have HL : Hid (d.length ≤ 140737488351232) := Lib.hid (by omega)
  have HL2 : Hid (d.length ≤ 140737488355328) := Lib.hid (by omega)
  have HTL : Hid (ts.length ≤ cap2 ∧ cap2 ≤ 140737488351232) := Lib.hid ⟨hc2, hm2⟩
  have H0 := Lib.hid h0
  clear h0 hr hc hm ht r2 hc2 hm2
  go_enter Tryd.func9, Tryd.ntmps9
  go_wp2_with fail
  refine (speaks19_any _ (hT.below H0.out.bel hT.1)).mono ?_
  rintro e w1 ⟨rfl, hb1⟩
  have h1 := H0.out.below hb1
  obtain ⟨c0, c1⟩ := cells2 h1
  have HSA := Lib.hid h1.drew
  clear h1 hb1 hT H0
  go_wp2_with fail
  refine wp_region_held_drew (S := (fun w' => w'.cell? ⟨w.heap.size, 0, none⟩ = some (.int .i64 t) ∧ w'.cell? ⟨w.heap.size, 1, none⟩ = some (.slice A d.length c))) (by kernel_rfl) (by (try dsimp only); first | with_reducible exact ⟨n0, n1⟩ | with_reducible exact ⟨m0, m1⟩ | go_keep) (fun hHeld => ?_)
  refine wpAnyH_take (i := 0) (v := ?_) rfl (by kernel_rfl) (by kernel_rfl) (by kernel_rfl) (fun _ _ _ h => h) (Or.inl ⟨by rfl, ?_⟩) (by assumption) ?_
  rotate_left
  · (intro w hSw; (try dsimp only at hSw); go_simp; try with_reducible rfl)
  try simp only [Act.put, List.getElem_toArray, List.getElem_cons_zero, List.getElem_cons_succ, List.setIfInBounds_toArray, List.set_cons_zero, List.set_cons_succ]
  refine wpAnyH_take (i := 1) (v := ?_) rfl (by kernel_rfl) (by kernel_rfl) (by kernel_rfl) (fun _ _ _ h => h) (Or.inl ⟨by rfl, ?_⟩) (by assumption) ?_
  rotate_left
  · (intro w hSw; (try dsimp only at hSw); go_simp; try with_reducible rfl)
  try simp only [Act.put, List.getElem_toArray, List.getElem_cons_zero, List.getElem_cons_succ, List.setIfInBounds_toArray, List.set_cons_zero, List.set_cons_succ]
  refine wpAnyH_take (i := 2) (v := ?_) rfl (by kernel_rfl) (by kernel_rfl) (by kernel_rfl) (fun _ _ _ h => h) (Or.inl ⟨by rfl, ?_⟩) (by assumption) ?_
  rotate_left
  · (intro w hSw; (try dsimp only at hSw); go_simp; try with_reducible rfl)
  try simp only [Act.put, List.getElem_toArray, List.getElem_cons_zero, List.getElem_cons_succ, List.setIfInBounds_toArray, List.set_cons_zero, List.set_cons_succ]
  refine wpAnyH_take (i := 3) (v := ?_) rfl (by kernel_rfl) (by kernel_rfl) (by kernel_rfl) (fun _ _ _ h => h) (Or.inl ⟨by rfl, ?_⟩) (by assumption) ?_
  rotate_left
  · (intro w hSw; (try dsimp only at hSw); go_simp; try with_reducible rfl)
  try simp only [Act.put, List.getElem_toArray, List.getElem_cons_zero, List.getElem_cons_succ, List.setIfInBounds_toArray, List.set_cons_zero, List.set_cons_succ]
  refine wpAnyH_ready (rs := [4]) (by kernel_rfl) (by simp) ?_
  refine AllReadyH.cons rfl (fun K hK => ?_) AllReadyH.nil
  go_simp
  go_at_call 12
  refine (cloneA HSA.out (cap := c) (HR.out.below' HSA.out.bel (Nat.le_refl _)) HSA.out.size HL2.out).mono ?_
  rintro e w2 ⟨A2, c2, rfl, hc2, hm2, h2⟩
  have hk := h2.drop.blk
  have m0 : w2.cell? ⟨w.heap.size, 0, none⟩ = some (.int .i64 t) := (by rw [hk.cell 0]; rfl)
  have m1 : w2.cell? ⟨w.heap.size, 1, none⟩ = some (.slice A d.length c) := (by rw [hk.cell 1]; rfl)
  have H2 := Lib.hid h2
  clear h2 hk
  refine hK.out _ _ (by (try dsimp only); first | with_reducible exact ⟨n0, n1⟩ | with_reducible exact ⟨m0, m1⟩ | go_keep) (fun hHeld => ?_)
  clear hK K
  try simp only [Act.put, List.getElem_toArray, List.getElem_cons_zero, List.getElem_cons_succ, List.setIfInBounds_toArray, List.set_cons_zero, List.set_cons_succ]
  refine wpAnyH_take (i := 5) (v := ?_) rfl (by kernel_rfl) (by kernel_rfl) (by kernel_rfl) (fun _ _ _ h => h) (Or.inl ⟨by rfl, ?_⟩) (by assumption) ?_
  rotate_left
  · (intro w hSw; (try dsimp only at hSw); go_simp; try with_reducible rfl)
  try simp only [Act.put, List.getElem_toArray, List.getElem_cons_zero, List.getElem_cons_succ, List.setIfInBounds_toArray, List.set_cons_zero, List.set_cons_succ]
  refine wpAnyH_ready (rs := [6]) (by kernel_rfl) (by simp) ?_
  refine AllReadyH.cons rfl (fun K hK => ?_) AllReadyH.nil
  go_simp
  go_at_call 13
  refine (Pack_any t A2 c2 _ d w2 (HT.out.below H2.out.bel HT.out.1) H2.out.obR.2.2.2 (Nat.le_refl _) HL.out).mono ?_
  rintro e w4 ⟨v4, rfl, h4⟩
  have h5 := H2.out.addStL h4
  have hk := h5.drop.drop.blk
  have n0 : w4.cell? ⟨w.heap.size, 0, none⟩ = some (.int .i64 t) := (by rw [hk.cell 0]; rfl)
  have n1 : w4.cell? ⟨w.heap.size, 1, none⟩ = some (.slice A d.length c) := (by rw [hk.cell 1]; rfl)
  have H4 := Lib.hid h5
  clear h4 h5 hk m0 m1 H2
  refine hK.out _ _ (by (try dsimp only); first | with_reducible exact ⟨n0, n1⟩ | with_reducible exact ⟨m0, m1⟩ | go_keep) (fun hHeld => ?_)
  clear hK K
  try simp only [Act.put, List.getElem_toArray, List.getElem_cons_zero, List.getElem_cons_succ, List.setIfInBounds_toArray, List.set_cons_zero, List.set_cons_succ]
  refine wpAnyH_take (i := 7) (v := ?_) rfl (by kernel_rfl) (by kernel_rfl) (by kernel_rfl) (fun _ _ _ h => h) (Or.inl ⟨by rfl, ?_⟩) (by assumption) ?_
  rotate_left
  · (intro w hSw; (try dsimp only at hSw); go_simp; try with_reducible rfl)
  try simp only [Act.put, List.getElem_toArray, List.getElem_cons_zero, List.getElem_cons_succ, List.setIfInBounds_toArray, List.set_cons_zero, List.set_cons_succ]
  refine wpAnyH_take (i := 8) (v := ?_) rfl (by kernel_rfl) (by kernel_rfl) (by kernel_rfl) (fun _ _ _ h => h) (Or.inl ⟨by rfl, ?_⟩) (by assumption) ?_
  rotate_left
  · (intro w hSw; (try dsimp only at hSw); go_simp; try with_reducible rfl)
  try simp only [Act.put, List.getElem_toArray, List.getElem_cons_zero, List.getElem_cons_succ, List.setIfInBounds_toArray, List.set_cons_zero, List.set_cons_succ]
  refine wpAnyH_take (i := 9) (v := ?_) rfl (by kernel_rfl) (by kernel_rfl) (by kernel_rfl) (fun _ _ _ h => h) (Or.inl ⟨by rfl, ?_⟩) (by assumption) ?_
  rotate_left
  · (intro w hSw; (try dsimp only at hSw); go_simp; try with_reducible rfl)
  try simp only [Act.put, List.getElem_toArray, List.getElem_cons_zero, List.getElem_cons_succ, List.setIfInBounds_toArray, List.set_cons_zero, List.set_cons_succ]
  refine wpAnyH_take (i := 10) (v := ?_) rfl (by kernel_rfl) (by kernel_rfl) (by kernel_rfl) (fun _ _ _ h => h) (Or.inl ⟨by rfl, ?_⟩) (by assumption) ?_
  rotate_left
  · (intro w hSw; (try dsimp only at hSw); go_simp; try with_reducible rfl)
  try simp only [Act.put, List.getElem_toArray, List.getElem_cons_zero, List.getElem_cons_succ, List.setIfInBounds_toArray, List.set_cons_zero, List.set_cons_succ]
  refine wpAnyH_take (i := 11) (v := ?_) rfl (by kernel_rfl) (by kernel_rfl) (by kernel_rfl) (fun _ _ _ h => h) (Or.inl ⟨by rfl, ?_⟩) (by assumption) ?_
  rotate_left
  · (intro w hSw; (try dsimp only at hSw); go_simp; try with_reducible rfl)
  try simp only [Act.put, List.getElem_toArray, List.getElem_cons_zero, List.getElem_cons_succ, List.setIfInBounds_toArray, List.set_cons_zero, List.set_cons_succ]
  refine wpAnyH_done (by kernel_rfl) ?_ _
  by_cases he0 : packErr t d = 0
  · have hpb : packB t d = fbytes t.toNat d := if_pos he0
    have hin : 0 ≤ t ∧ t ≤ 255 ∧ d.length ≤ 1048576 := by
      unfold packErr at he0
      split at he0
      · cases he0
      · split at he0
        · cases he0
        · omega
    have H5 := Lib.hid (hpb ▸ H4.out)
    obtain ⟨q0, q1⟩ := cells2 H5.out.bring2
    rw [he0]
    obtain ⟨A5, c5, rfl, hc5, hm5, hr5⟩ := H5.out.obForm (fbytes_len t.toNat d)
    by_cases hearly : at_ < 5 ∨ ((9 + d.length : Nat) : Int) ≤ at_
    · have HE := Lib.hid H4.out.bel
      clear H5 hr5 H4
      by_cases h5 : at_ < 5
      · go_wp2_with fail
        go_ret
        exact ⟨rfl, HE.out⟩
      · have h6 : ((9 + d.length : Nat) : Int) ≤ at_ := by omega
        have h6' : 9 + (d.length : Int) ≤ at_ := by omega
        go_wp2_with fail
        go_ret
        exact ⟨rfl, HE.out⟩
    · obtain ⟨a, rfl⟩ := Int.eq_ofNat_of_zero_le (by omega : 0 ≤ at_)
      have ha5 : 5 ≤ a := by omega
      have hal : a < 9 + d.length := by omega
      have e1 : ¬ ((a : Int) < 5) := by omega
      have e2 : ¬ (9 + (d.length : Int) ≤ (a : Int)) := by omega
      have HA : Hid (5 ≤ a ∧ a < 9 + d.length ∧ d.length ≤ 1048576 ∧ 0 ≤ t ∧ t ≤ 255) := Lib.hid ⟨ha5, hal, hin.2.2, hin.1, hin.2.1⟩
      have hd6 := hin.2.2
      clear hearly hpb he0 hin H4 q0 q1 hr5 ha5 hal
      go_wp2_with fail
      go_loopw [9, 10] (fun u i wr => ∃ k : Nat, k ≤ ts.length ∧ k ≤ 4 ∧ (a + k ≤ 5 + d.length ∨ k = 0) ∧ i = .int .i64 k ∧ u = .bool (anyTo ts k) ∧ St Zf [ObA 5 (.slice A5 (9 + d.length) c5) (bur (fbytes t.toNat d) a ts k), ObA 5 (.slice A2 d.length c2) d, BlkA w.heap.size 25 #[.int .i64 t, .slice A d.length c]] w wr) (fun _ i _ => ts.length - (intOf i).toNat)
      case atStart => exact ⟨0, Nat.zero_le _, by omega, .inr rfl, rfl, rfl, by rw [bur_zero]; exact H5.out⟩
      case round =>
        obtain ⟨k, hk1, hk2, hk3, rfl, rfl, hst⟩ := hrel
        have HST := Lib.hid hst
        obtain ⟨ha5, hal, hdl, ht0, ht1⟩ := HA.out
        have hbl : (fbytes t.toNat d).length = 9 + d.length := fbytes_len _ _
        by_cases hgo : k < ts.length ∧ k < 4 ∧ a + k < 5 + d.length
        · obtain ⟨g1, g2, g3⟩ := hgo
          have g4 : (k : Int) < 5 + (d.length : Int) - (a : Int) := by omega
          have n1 := hst.ob.1.nth (a + k)
          have n2 := HR2.out.1.nth k
          have hlk : a + k < (bur (fbytes t.toNat d) a ts k).length := by rw [bur_length, hbl]; omega
          have hxl : a + k < (fbytes t.toNat d).length := by rw [hbl]; omega
          obtain ⟨gb, og, hAg, hgl, hcx⟩ := hst.obR.2.2.2.at_ hlk
          obtain ⟨bt, ot, rfl, htl, hct⟩ := (HR2.out.below' hst.bel (Nat.le_refl _)).at_ (k := k) g1
          obtain ⟨g', cg, hv, -, -⟩ := hst.ob.2.form (by omega)
          simp only [Value.slice.injEq] at hv
          obtain ⟨hA2, -, -⟩ := hv
          rw [hA2] at hAg
          injection hAg with hAg
          injection hAg with hA3 hA4
          subst hA3 hA4
          subst hA2
          rw [Nat.zero_add] at hcx
          have hbl9 : (bur (fbytes t.toNat d) a ts k).length = 9 + d.length := by rw [bur_length, hbl]
          have hfz : wr.frozen? ⟨g', a + k, none⟩ = false := by
            have := hst.ob.2
            rw [hbl9] at this
            exact this.frozenAt _
          have hgown : w.heap.size ≤ g' := by
            obtain ⟨F, ⟨F1, H1, ⟨ho, rfl⟩, -, -, rfl⟩, -, hf⟩ := hst
            exact (hf g' (.inl rfl)).elim (fun h => h.elim) id
          have e1 := xor8 (nth (bur (fbytes t.toNat d) a ts k) (a + k)) (nth ts k) n1 n2
          have hset := bur_set (fbytes t.toNat d) a ts k hxl
          rw [← bur_nth (fbytes t.toNat d) a ts k hxl] at hset
          have ho2 := hst.ob
          rw [← hbl9] at ho2
          have hsto := ho2.stored (a + k) (nth (bur (fbytes t.toNat d) a ts k) (a + k) ^^^ nth ts k) (xor_lt8 n1 n2)
          rw [hset, hbl9] at hsto
          have hst2 := hst.grewOb hsto.1 hsto.2 (.inl rfl) (Nat.le_refl _)
          have Hst := Lib.hid hst2
          have hany := anyTo_succ ts k g1
          have hbne : bt ≠ g' := by omega
          generalize nth (bur (fbytes t.toNat d) a ts k) (a + k) ^^^ nth ts k = mm at *
          have hct2 : (wr.setCell ⟨g', a + k, none⟩ (.int .u8 (mm : Int))).cell? ⟨bt, ot + k, none⟩ = some (.int .u8 ((nth ts k : Nat) : Int)) := by
            rw [World.cell?_setCell_other _ _ _ _ (by intro e; injection e with e; omega)]; exact hct
          have hz : ((nth ts k : Int) != 0) = (nth ts k != 0) := by
            rw [Bool.eq_iff_iff, bne_iff_ne, bne_iff_ne]; omega
          have HG := Lib.hid (⟨g1, g2, g3⟩ : k < ts.length ∧ k < 4 ∧ a + k < 5 + d.length)
          have Hany := Lib.hid hany
          have g3' : (a : Int) + (k : Int) < 9 + (d.length : Int) := by omega
          generalize nth (bur (fbytes t.toNat d) a ts k) (a + k) = mx at *
          clear hst hst2 hsto ho2 hset hany hxl hlk hk3 hbl hbl9
          generalize anyTo ts k = u at *
          generalize (nth ts k != 0) = z at *
          rcases u with _ | _ <;> rcases z with _ | _
          all_goals
            go_wp2
            go_region
            go_wp2
            go_roundw
            case rel => exact ⟨k + 1, by have := HG.out; omega, by have := HG.out; omega, by have := HG.out; omega, by go_num, by rw [Hany.out]; rfl, Hst.out.drew⟩
            case measure => simp [intOf]; omega
        · have hcase : ts.length ≤ k ∨ (k < ts.length ∧ 4 ≤ k) ∨ (k < ts.length ∧ k < 4 ∧ 5 + d.length ≤ a + k) := by omega
          have hdi : IsBytes d := HR.out.1
          obtain ⟨f1, f2⟩ := burst_frs (t := t.toNat) hdi hdl ha5 hk1 hk2 hk3 HR2.out.1
          have hSp := Split_any A5 c5 _ (bur (fbytes t.toNat d) a ts k) wr (HT.out.below hst.bel HT.out.1) hst.obR.2.2.2 (Nat.le_refl _) (by rw [bur_length, hbl]; exact hc5) hm5 (by rw [bur_length, hbl]; omega)
          unfold SplitW at hSp
          rw [bur_length, hbl, f1] at hSp
          have HSp := Lib.hid hSp
          have HF2 := Lib.hid f2
          have hb4 : ¬ (5 : Int) + d.length ≤ 0 := by omega
          clear hst hSp f1 f2 hdi hk3 hbl
          generalize anyTo ts k = u at *
          have e7 : ((9 + d.length : Nat) : Int) - 4 - (a : Int) = 5 + (d.length : Int) - (a : Int) := by omega
          rcases u with _ | _
          · rcases hcase with h1 | ⟨h1, h2⟩ | ⟨h1, h2, h3⟩
            · go_wp2_with fail
              refine HSp.out.mono ?_
              rintro e w7 ⟨v7, X7, rfl, h7, hX7⟩
              have hXl : X7.length = 1 := by
                have h := congrArg List.length hX7
                rw [if_pos (by rfl), HF2.out (by trivial), List.length_map] at h
                exact h
              have h8 := HST.out.addStL h7
              obtain ⟨A7, c7, rfl, -, -, -⟩ := (St.flat h8).owForm
              rw [hXl]
              have HE := Lib.hid h8.bel
              clear h7 h8 hX7 HSp HST
              go_wp2_with fail
              go_ret
              exact ⟨rfl, HE.out⟩
            · go_wp2_with fail
              refine HSp.out.mono ?_
              rintro e w7 ⟨v7, X7, rfl, h7, hX7⟩
              have hXl : X7.length = 1 := by
                have h := congrArg List.length hX7
                rw [if_pos (by rfl), HF2.out (by trivial), List.length_map] at h
                exact h
              have h8 := HST.out.addStL h7
              obtain ⟨A7, c7, rfl, -, -, -⟩ := (St.flat h8).owForm
              rw [hXl]
              have HE := Lib.hid h8.bel
              clear h7 h8 hX7 HSp HST
              go_wp2_with fail
              go_ret
              exact ⟨rfl, HE.out⟩
            · have h4 : ¬ (k : Int) < 5 + (d.length : Int) - (a : Int) := by omega
              go_wp2_with fail
              refine HSp.out.mono ?_
              rintro e w7 ⟨v7, X7, rfl, h7, hX7⟩
              have hXl : X7.length = 1 := by
                have h := congrArg List.length hX7
                rw [if_pos (by rfl), HF2.out (by trivial), List.length_map] at h
                exact h
              have h8 := HST.out.addStL h7
              obtain ⟨A7, c7, rfl, -, -, -⟩ := (St.flat h8).owForm
              rw [hXl]
              have HE := Lib.hid h8.bel
              clear h7 h8 hX7 HSp HST
              go_wp2_with fail
              go_ret
              exact ⟨rfl, HE.out⟩
          · rcases hcase with h1 | ⟨h1, h2⟩ | ⟨h1, h2, h3⟩
            · go_wp2_with fail
              refine HSp.out.mono ?_
              rintro e w7 ⟨v7, X7, rfl, h7, hX7⟩
              have hXl : X7.length = 0 := by
                have h := congrArg List.length hX7
                rw [if_neg (by decide), List.length_map] at h
                exact h
              have h8 := HST.out.addStL h7
              obtain ⟨A7, c7, rfl, -, -, -⟩ := (St.flat h8).owForm
              rw [hXl]
              have HE := Lib.hid h8.bel
              clear h7 h8 hX7 HSp HST
              go_wp2_with fail
              go_ret
              exact ⟨rfl, HE.out⟩
            · go_wp2_with fail
              refine HSp.out.mono ?_
              rintro e w7 ⟨v7, X7, rfl, h7, hX7⟩
              have hXl : X7.length = 0 := by
                have h := congrArg List.length hX7
                rw [if_neg (by decide), List.length_map] at h
                exact h
              have h8 := HST.out.addStL h7
              obtain ⟨A7, c7, rfl, -, -, -⟩ := (St.flat h8).owForm
              rw [hXl]
              have HE := Lib.hid h8.bel
              clear h7 h8 hX7 HSp HST
              go_wp2_with fail
              go_ret
              exact ⟨rfl, HE.out⟩
            · have h4 : ¬ (k : Int) < 5 + (d.length : Int) - (a : Int) := by omega
              go_wp2_with fail
              refine HSp.out.mono ?_
              rintro e w7 ⟨v7, X7, rfl, h7, hX7⟩
              have hXl : X7.length = 0 := by
                have h := congrArg List.length hX7
                rw [if_neg (by decide), List.length_map] at h
                exact h
              have h8 := HST.out.addStL h7
              obtain ⟨A7, c7, rfl, -, -, -⟩ := (St.flat h8).owForm
              rw [hXl]
              have HE := Lib.hid h8.bel
              clear h7 h8 hX7 HSp HST
              go_wp2_with fail
              go_ret
              exact ⟨rfl, HE.out⟩
  · have hbad : t < 0 ∨ 255 < t ∨ 1048576 < d.length := by
      unfold packErr at he0
      split at he0
      · omega
      · split at he0
        · omega
        · exact absurd rfl he0
    obtain ⟨q0, q1⟩ := cells2 H4.out.bring2
    have HE := Lib.hid H4.out.bel
    obtain ⟨A5, c5, rfl, -, -, -⟩ := H4.out.obForm rfl
    have hne : ¬ packErr t d = 0 := he0
    generalize packErr t d = pe at *
    generalize (packB t d).length = pl at *
    clear H4 he0
    rcases hbad with h | h | h
    · go_wp2_with fail
      go_ret
      exact ⟨rfl, HE.out⟩
    · have h2 : ¬ t < 0 := by omega
      go_wp2_with fail
      go_ret
      exact ⟨rfl, HE.out⟩
    · have h' : (1048576 : Int) < (d.length : Int) := by omega
      by_cases h2 : t < 0
      · go_wp2_with fail
        go_ret
        exact ⟨rfl, HE.out⟩
      · by_cases h3 : 255 < t
        · go_wp2_with fail
          go_ret
          exact ⟨rfl, HE.out⟩
        · go_wp2_with fail
          go_ret
          exact ⟨rfl, HE.out⟩

/-! ### THE ROW's STEP -/
theorem own : ownKnob Tryd.prog.godebug = none := by kernel_rfl
theorem laidOut : laidOutB Tryd.prog = true := by kernel_rfl
theorem gTab0 : Tryd.prog.globalNamed "satchel/crc.nibbles" = some 0 := by kernel_rfl
theorem gTabType0 : (Tryd.prog.globals[0]?).map (·.type) = some 87 := by kernel_rfl
theorem cellsTab0 : Tryd.prog.cellsOf 87 = 16 := by kernel_rfl
theorem cellsElem0 : Tryd.prog.cellsOf 66 = 1 := by kernel_rfl
theorem table0 {W : World} (h : laidMetH Tryd.prog Rows.frameBurstRow.laid W) : Lib.TabIs Tryd.prog W "satchel/crc.nibbles" .u32 [0, 498536548, 997073096, 651767980, 1994146192, 1802195444, 1303535960, 1342533948, 3988292384, 4027552580, 3604390888, 3412177804, 2607071920, 2262029012, 2685067896, 3183342108] :=
  Lib.tabIs_of_head gTab0 gTabType0 Tryd.underlying87 Tryd.underlying66 cellsElem0 cellsTab0 h

set_option maxRecDepth 100000 in
theorem contract (H : Type) (enc : TypeId × Value → H) (W : World) (base : Nat) (args : Array Value) (ds gs : List (DataW H)) (before : List MemPlace)
    (hval0 : ∀ (j : Nat) t v, Tryd.f9.params[j]? = some t → args[j]? = some v → Value.okWide Tryd.prog W .any base t v)
    (hW : DataW.Whole enc Tryd.prog Tryd.f9.params.toList Rows.frameBurstSpec.vars false W args.toList ds gs before)
    (hsz : (DataW.weightsEach Tryd.prog (Tryd.f9.params.toList ++ (OpenSpec.ofChange Rows.frameBurstSpec).bare.plain.varTypes Tryd.prog) (ds ++ gs)).all (· ≤ reachBytes) = true) (hL : laidMetH Tryd.prog Rows.frameBurstRow.laid W) :
    Calls Tryd.prog 9 args W fun e W' => ∃ v, e = .returned v ∧ Rows.frameBurstSpec.post enc Tryd.prog Tryd.f9 false true false false W args v W' := by
  have hval : ∀ (j : Nat) t v, Tryd.f9.params[j]? = some t → args[j]? = some v → Value.okWide Tryd.prog W .any base t v := hval0
  have hW' := hW
  obtain ⟨p, q, hA0, hV, rfl, hfz, hnd⟩ := hW
  have hA : DataW.TrodAll enc Tryd.prog W 0 (fun _ => true) true Tryd.f9.params.toList args.toList ds p := hA0
  rw [Tryd.params9] at hA hval
  obtain ⟨v0, vs0, d0, ds0, p0, q0, hargs, rfl, rfl, h0, r0⟩ := trodAll_cons hA
  obtain ⟨v1, vs1, d1, ds1, p1, q1, rfl, rfl, rfl, h1, r1⟩ := trodAll_cons r0
  obtain ⟨v2, vs2, d2, ds2, p2, q2, rfl, rfl, rfl, h2, r2⟩ := trodAll_cons r1
  obtain ⟨rfl, rfl, rfl⟩ := trodAll_nil r2
  obtain rfl : args = #[v0, v1, v2] := by cases args; simp_all
  obtain ⟨rfl, rfl⟩ := trodVars_none hV
  have k0 := h0
  have lt0 : ∀ x ∈ p0, x.block < W.heap.size := by obtain ⟨m, hm⟩ := k0; exact DataW.trod_lt m _ _ _ hm
  have w0 := reach_at hsz (j := 0) rfl rfl
  have k1 := h1
  have lt1 : ∀ x ∈ p1, x.block < W.heap.size := by obtain ⟨m, hm⟩ := k1; exact DataW.trod_lt m _ _ _ hm
  have w1 := reach_at hsz (j := 1) rfl rfl
  have k2 := h2
  have lt2 : ∀ x ∈ p2, x.block < W.heap.size := by obtain ⟨m, hm⟩ := k2; exact DataW.trod_lt m _ _ _ hm
  have w2 := reach_at hsz (j := 2) rfl rfl
  clear hA0 hval0 hsz
  have hT := tabW_of fun i hi => (table0 hL).cell gTab0 i hi
  obtain ⟨t0, A0, c0, d0, rfl, hx0⟩ := open_frame (hval 0 _ v0 rfl rfl) w0 h0 lt0
  obtain ⟨a1, rfl, rfl, rfl, wf1⟩ := open_int Tryd.underlying3 (hval 1 3 v1 rfl rfl) h1
  obtain ⟨A2, n2, c2, rfl⟩ := okWide_slice Tryd.underlying23 (hval 2 23 v2 rfl rfl)
  obtain ⟨b2, rfl, rb2, cb2, mb2⟩ := open_bytes Tryd.underlying23 Tryd.underlying5 (by kernel_rfl) (by kernel_rfl) w2 h2
  refine (walk W hT hx0 (bounds_i64 wf1) rb2 cb2 mb2).mono fun e W' ⟨he, bel⟩ => ?_
  subst he
  exact ⟨_, rfl, _, _, _, [], _, [], hW', trodAll_mk1 (shut_bool Tryd.underlying4 _), (trodAll_cons_mk (Below.trod laidOut (by kernel_rfl) (of_decide_eq_true (by kernel_rfl)) k0 bel lt0) (trodAll_cons_mk (Below.trod laidOut (by kernel_rfl) (of_decide_eq_true (by kernel_rfl)) k1 bel lt1) (trodAll_cons_mk (Below.trod laidOut (by kernel_rfl) (of_decide_eq_true (by kernel_rfl)) k2 bel lt2) trodAll_mk0))), rfl, bel.frame _, fun h => by cases h⟩

/-- a world for the witness: the settled one, the tables holding what their initialisers lay -/
noncomputable def laidWorld (os : Os) : World :=
  { World.holding Tryd.prog os ⟨#[], #[], []⟩ with heap := ((World.holding Tryd.prog os ⟨#[], #[], []⟩).heap.modify 0 (fun | .cells _ t frozen => .cells #[.int .u32 0, .int .u32 498536548, .int .u32 997073096, .int .u32 651767980, .int .u32 1994146192, .int .u32 1802195444, .int .u32 1303535960, .int .u32 1342533948, .int .u32 3988292384, .int .u32 4027552580, .int .u32 3604390888, .int .u32 3412177804, .int .u32 2607071920, .int .u32 2262029012, .int .u32 2685067896, .int .u32 3183342108] t frozen | o => o)) }
theorem laid_met (os : Os) : laidMet Tryd.prog Rows.frameBurstRow.laid ((laidWorld os).forCall (fun _ _ => 0) ⟨#[], #[.agg #[.int .i64 0, .slice none 0 0], .int .i64 0, .slice none 0 0], []⟩).memory :=
  laidMet_of_run' 8 (by kernel_rfl) (by kernel_rfl)
theorem reads (os : Os) {H : Type} (enc : TypeId × Value → H) : ∃ places, DataW.whole enc Tryd.prog ((laidWorld os).forCall (fun _ _ => 0) ⟨#[], #[.agg #[.int .i64 0, .slice none 0 0], .int .i64 0, .slice none 0 0], []⟩).memory Tryd.f9.params.toList Rows.frameBurstSpec.vars false (#[.agg #[.int .i64 0, .slice none 0 0], .int .i64 0, .slice none 0 0] : Array Value).toList 8 = some ([.agg [.lit (.int .i64 0), .nil], .lit (.int .i64 0), .nil], [], places) :=
  ⟨[], by kernel_rfl⟩

set_option maxRecDepth 100000 in
theorem lifted (os : Os) (started : os.Started) (H : Type) (enc : TypeId × Value → H) (F : Stop.Interp) :
    ReturnsInHanded {} Tryd.checked os 9 .any ((OpenSpec.ofChange Rows.frameBurstSpec).preRow enc Tryd.prog Tryd.f9 Rows.frameBurstRow.domain false Rows.frameBurstRow.laid) (((OpenSpec.ofChange Rows.frameBurstSpec).at F).post enc Tryd.prog Tryd.f9 false true false false) := by
  obtain ⟨places, hx⟩ := reads os enc
  refine returnsInHanded_of_row (C := Tryd.checked) (s := (OpenSpec.ofChange Rows.frameBurstSpec)) own started (by kernel_rfl) Tryd.func9
    (witness_row_at (enc := enc) (C := Tryd.checked) false (laidWorld os) #[.agg #[.int .i64 0, .slice none 0 0], .int .i64 0, .slice none 0 0] rfl (by kernel_rfl) (by kernel_rfl) (by kernel_rfl)
      (OpenSpec.preRow_of_cond 8 hx (by kernel_rfl) (fun k hk => by cases hk) (by kernel_rfl) (laid_met os))) ?_
  intro W base args ds gs before hval hW _ hcond hsz hL _ _
  exact contract H enc W base args ds gs before hval hW hsz hL

theorem said : Rows.FrameBurstSaid :=
  OpenClaim.holds_of_cond 9 Tryd.f9 rfl rfl rfl rfl rfl rfl rfl ⟨rfl, rfl, rfl, rfl, rfl⟩ rfl rfl rfl rfl rfl (by kernel_rfl) Tryd.func9 (by kernel_rfl)
    (of_decide_eq_true (by kernel_rfl)) (by unfold Func.isWrapper; rw [if_neg (of_decide_eq_false (by kernel_rfl))]; exact ⟨rfl, rfl⟩)
    (fun os started H enc _ F => by rw [OpenClaim.pre_eq_preRow]; exact lifted os started H enc F)

theorem noStandIn : ∀ t ∈ ([25, 3, 23] : List TypeId), Tryd.prog.wantsStandIn t = false := by
  intro t ht
  simp only [List.mem_cons, List.not_mem_nil, or_false] at ht
  rcases ht with rfl | rfl | rfl
  · exact (show Tryd.prog.wantsStandIn 25 = false by kernel_rfl)
  · exact (show Tryd.prog.wantsStandIn 3 = false by kernel_rfl)
  · exact (show Tryd.prog.wantsStandIn 23 = false by kernel_rfl)
theorem plain (f : FuncId) (fn : Func) (hf : Tryd.pinned.checked.prog.funcNamed "satchel/satchellaw19.FrameBurst" = some f) (hfn : Tryd.pinned.checked.prog.funcs[f]? = some fn) :
    false = Tryd.pinned.checked.prog.looks [] ∧ ∀ (j : Nat) t, fn.params[j]? = some t → Tryd.pinned.checked.prog.wantsStandIn t = false := by
  obtain rfl : f = 9 := Option.some.inj ((show Tryd.prog.funcNamed "satchel/satchellaw19.FrameBurst" = some 9 by kernel_rfl).symm.trans hf) |>.symm
  obtain rfl : fn = Tryd.f9 := (Option.some.inj (Tryd.func9.symm.trans hfn)).symm
  refine ⟨by kernel_rfl, fun j t ht => ?_⟩
  rw [Tryd.params9] at ht
  exact noStandIn t (by simpa using Array.mem_of_getElem? ht)

/-- THE CARD -/
theorem proved : Rows.FrameBurstCardSaid :=
  Claim7.holds_tied_plain_at .later [] _ _ _ _ said (fun _ h => by cases h) (by kernel_rfl) (fun _ h => by cases h) frameBurst_row_tie rfl ⟨rfl, rfl⟩ (by kernel_rfl) rfl plain (by kernel_rfl)
end Go.Proofs.YtkdlehekignnhaaDoor.frameBurst
