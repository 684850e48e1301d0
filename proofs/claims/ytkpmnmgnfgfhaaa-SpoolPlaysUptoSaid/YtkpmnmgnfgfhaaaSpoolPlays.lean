/- For all bytes and scripts (of at most 1048576 values): a spool tells what is seen, what is safe and what a loss of power would leave exactly, call by call. -/
import Derived.Test.YtkpmnmgnfgfhaaaOpen
import Derived.Test.YtkpmnmgnfgfhaaaRows
import Derived.Test.YtkpmnmgnfgfhaaaBulk
import Derived.Deep.CondSized
import Derived.Test.YtkpmnmgnfgfhaaaSpSpeak
import Derived.Test.YtkpmnmgnfgfhaaaApList
import Derived.Deep.QuietTactic
import Derived.BigQuiet
import Derived.Deep.RegionHeld3
import Derived.Deep.Cut
namespace Go.Proofs.Ytkpmnmgnfgfhaaa.spoolPlays
open Go.ChangeShapes Go.WideShapes Go.ChangeAt Go.RowKit
open Go.ChangeMaps (open_string shut_string)
set_option linter.unusedVariables false

set_option maxRecDepth 100000 in
set_option maxHeartbeats 4000000 in
theorem walk (w : World) {A0 : Option Addr} {c0 : Nat} {b : List Nat} (hb : RB w w.heap.size A0 b) (hbc : b.length ≤ c0) (hcm : c0 ≤ 140737488351232) (hbu : b.length + 1 ≤ 1048576)
    {A1 : Option Addr} {n1 c1 : Nat} (hx1 : ∃ L : List Opv, L.length = n1 ∧ Ops w w.heap.size A1 L ∧ n1 ≤ 140737488351232 ∧ opsBulk L + 1 ≤ 1048576) :
    Calls Try.prog 3 #[.slice A0 b.length c0, .slice A1 n1 c1] w fun e w' => e = .returned (.bool true) ∧ Below w.heap.size w w' := by
  obtain ⟨L, rfl, hops, hn1, hu⟩ := hx1
  obtain ⟨j0, hj, hy0, hy1, hy2⟩ := info_parts bool_info
  have Hlb : Hid (b.length ≤ maxLen) := Lib.hid (by unfold maxLen; omega)
  have hLs := opsBulk_len L
  go_enter Try.func3, Try.ntmps3
  go_wp2_with fail
  refine (speaks7_any w).mono ?_
  rintro e w1 ⟨rfl, hb1⟩
  have h1 : St Zf [] w w1 := (St.start Zf w).below hb1
  clear hb1
  go_wp2_with fail
  refine (Copy7_any A0 c0 w.heap.size b w1 (h1.rb hb (Nat.le_refl _)) h1.size (by omega)).mono ?_
  rintro e w2 ⟨v2, rfl, ho2, hb2⟩
  have h2 := h1.newOb ho2 hb2
  obtain ⟨Ai, ci, rfl, -, -, -, -⟩ := ho2.form
  clear h1 ho2 hb2
  go_wp2_with fail
  refine (New_any h2 Ai ci w2.heap.size b h2.ob.reads.2.1 (Nat.le_refl _) (by omega)).mono ?_
  rintro e w3 ⟨g, rfl, h3⟩
  clear h2
  go_wp2_with fail
  refine (New_any h3 Ai ci w3.heap.size b h3.swap.ob.reads.2.1 (Nat.le_refl _) (by omega)).mono ?_
  rintro e w4 ⟨g2, rfl, h4⟩
  clear h3
  go_wp2_with fail
  refine (same_yes Ai A0 b.length ci c0 _ _ b _ h4.bring2.ob.reads.2.1 (h4.rb hb (Nat.le_refl _)) rfl Hlb.out).mono ?_
  rintro e w5 ⟨rfl, n5, hw5⟩
  have h5 := h4.drewN n5
  rw [← hw5] at h5
  clear h4 hw5
  go_wp2_with fail
  refine (St.spoil h5.bring2 (by omega)).mono ?_
  rintro e w6 ⟨rfl, h6⟩
  clear h5
  go_wp2_with fail
  refine (rfNew_any h6 A0 c0 w.heap.size b (h6.rb hb (Nat.le_refl _)) h6.size (by omega)).mono ?_
  rintro e w7 ⟨g', rfl, h7⟩
  clear h6
  have h8 := h7.bring2
  clear h7
  go_wp2
  go_loopw [38] (fun i wr => ∃ (k : Nat) (p : List Nat × List (List Nat)) (qw : List (List Nat)), k ≤ L.length ∧ i = .int .i64 k ∧ p = play b (L.take k) ∧ qw.length ≤ k ∧ (seenOf b qw).length ≤ b.length + k ∧ St Zf [SpA g p.1 p.2, RfA g' p.1 p.2, SpA g2 b qw] w wr) (fun i _ => L.length - (intOf i).toNat)
  case atStart => exact ⟨0, (b, []), [], Nat.zero_le _, rfl, rfl, Nat.le_refl _, by simp [seenOf], h8⟩
  case round =>
    obtain ⟨k, p, qw, hk, rfl, hp, hq1, hq2, h5⟩ := hrel
    clear h8
    by_cases hlt : k < L.length
    · obtain ⟨ob, off, rfl, hbB, X2, y2, X3, y3, q0, q1, q2, hr2, hr3, hr0⟩ := hops k _ (opAt_get hlt)
      have hpn : play b (L.take (k + 1)) = stepOp p (opAt L k) := by rw [take_opAt hlt, play_snoc, ← hp]
      have hne := play_ne b (L.take k)
      have hbk := spBulk_play b (L.take k)
      have hbt := opsBulk_take L (k + 1)
      have hst : opsBulk (L.take (k + 1)) = opsBulk (L.take k) + ((opAt L k).bs.length + (opAt L k).ks.length + 4) := by rw [take_opAt hlt, opsBulk_append, opsBulk_one]
      rw [← hp] at hbk hne
      unfold spBulk at hbk
      generalize opAt L k = o at *
      obtain ⟨kd, ds, ks⟩ := o
      obtain ⟨pb, pw⟩ := p
      simp only at q0 q1 q2 hr2 hr3 hr0 hst hbk h5 hne
      have h6 := h5.newBlk 34 #[.int .i64 kd, .slice X2 ds.length y2, .slice X3 ks.length y3]
      have k0 := (h5.old (p := ⟨ob, off + k * 3, none⟩) hbB).trans q0
      have k1 := (h5.old (p := ⟨ob, off + k * 3 + 1, none⟩) hbB).trans q1
      have k2 := (h5.old (p := ⟨ob, off + k * 3 + 2, none⟩) hbB).trans q2
      have Hpn := Lib.hid hpn
      have Hne := Lib.hid hne
      have hdl : ds.length + ks.length ≤ 2097152 := by omega
      have hql : (seenOf pb pw).length + ds.length ≤ 2097152 := by omega
      have hql2 : pw.length ≤ 2097152 := by omega
      have Hdl : Hid (ds.length ≤ maxLen) := Lib.hid (by unfold maxLen; omega)
      clear q0 q1 q2 hp hpn hst h5 hne
      have hk4 : bits .and .i64 kd 3 = 0 ∨ bits .and .i64 kd 3 = 1 ∨ bits .and .i64 kd 3 = 2 ∨ (bits .and .i64 kd 3 ≠ 0 ∧ bits .and .i64 kd 3 ≠ 1 ∧ bits .and .i64 kd 3 ≠ 2) := by omega
      rcases hk4 with hk0 | hk1 | hk2 | hk4
      · have HS := Lib.hid (stepOp_write (p := (pb, pw)) (o := ⟨kd, ds, ks⟩) (.inl hk0))
        go_wp2_with fail
        obtain ⟨wo, hwo⟩ : ∃ x, x = wr.alloc (.cells #[.int .i64 kd, .slice X2 ds.length y2, .slice X3 ks.length y3] 34) := ⟨_, rfl⟩
        rw [← hwo] at h6
        rw [← hwo]
        clear hwo
        refine (Copy7_any X2 y2 w.heap.size ds wo (h6.rb hr2 (Nat.le_refl _)) h6.size (by omega)).mono ?_
        rintro e w9 ⟨v9, rfl, ho9, hb9⟩
        have h9 := h6.newOb ho9 hb9
        obtain ⟨A9, c9, rfl, -, -, -, -⟩ := ho9.form
        clear h6 ho9 hb9
        go_wp2_with fail
        refine (Append_any h9.bring2 A9 c9 _ ds h9.ob.reads.2.1 (by omega) (by omega)).mono ?_
        rintro e w10 ⟨rfl, h10⟩
        obtain ⟨-, x1, -⟩ := sp_cells h10.bring2
        clear h9
        go_wp2_with fail
        refine (same_yes A9 X2 ds.length c9 y2 _ _ ds _ h10.swap.ob.reads.2.1 (h10.rb hr2 (Nat.le_refl _)) rfl Hdl.out).mono ?_
        rintro e w11 ⟨rfl, n11, hw11⟩
        have h11 := h10.drewN n11
        rw [← hw11] at h11
        clear h10 hw11 x1
        go_wp2_with fail
        refine (St.spoil h11.swap (by omega)).mono ?_
        rintro e w12 ⟨rfl, h12⟩
        obtain ⟨-, x1, -⟩ := sp_cells h12.swap
        clear h11
        go_wp2_with fail
        refine (rfAppend_any h12.bring2 X2 y2 w.heap.size ds (h12.rb hr2 (Nat.le_refl _)) h12.size (by omega) (by omega)).mono ?_
        rintro e w13 ⟨rfl, h13⟩
        clear h12 x1
        go_wp2_with fail
        refine (Append_any (h13.bring3.alloc _) _ 1 (w13.heap.size + 1) [9] (RB.lit w13 5 (by unfold IsBytes; decide) _ rfl) (by simp; omega) (by omega)).mono ?_
        rintro e w14 ⟨rfl, h14⟩
        have h15 := h14.bring3.drop.swap.bring2
        have hT := seenOf_putW pb pw ds
        have hT1 : (seenOf pb (putW pw ds)).length ≤ 4194304 := by rw [hT, List.length_append]; omega
        have hT2 : (putW pw ds).length ≤ 4194304 := by have := putW_length pw ds; omega
        have hO : (putW qw [9]).length ≤ k + 1 := by have := putW_length qw [9]; omega
        have hO2 : (seenOf b (putW qw [9])).length ≤ b.length + (k + 1) := by rw [seenOf_putW]; simp; omega
        clear h13 h14 hT
        obtain ⟨S0, e0, S1, e1, hsr⟩ := sp_read h15
        obtain ⟨M0, m0, M1, m1, E, hE, hmr⟩ := rf_read h15.swap
        have hc := hmr.2.1.2
        have hEl : E.length = (putW pw ds).length := by rw [← hE, wsOf_length]
        have hM := rfSeen_new (w := (w14).drew) hmr (Nat.le_refl _) (by rw [hE]; omega) (by rw [hEl]; omega)
        have hZ := Size_new (w := (w14).drew) hsr
        have hP : ∀ w', Below (w14).drew.heap.size (w14).drew w' → Calls Try.prog 24 #[.pointer (some ⟨g, 0, none⟩)] w' fun e w'' => e = .returned (.int .i64 ((putW pw ds).length : Int)) ∧ w' = w'' := fun w' hb' => Pending_new (SpR.below (w := (w14).drew) hsr hb')
        rw [hE] at hM
        rw [hEl] at hc
        have hgl := hmr.1
        obtain ⟨T2, hT2'⟩ : ∃ T2, T2 = seenOf (pb) (putW pw ds) := ⟨_, rfl⟩
        obtain ⟨N2, hN2⟩ : ∃ N2, N2 = (putW pw ds).length := ⟨_, rfl⟩
        rw [← hT2'] at hM hZ
        rw [← hN2] at hP hc
        have HM := Lib.hid hM
        have HZ := Lib.hid hZ
        have HPe := Lib.hid hP
        have t1 : ((T2.length : Int) != (T2.length : Int)) = false := by simp
        have t2 : ((N2 : Int) != (N2 : Int)) = false := by simp
        clear hM hZ hP hsr hmr hE hEl hT2' hN2
        go_wp2_with fail
        go_region_held3 (fun w' => w'.cell? ⟨g', 1, none⟩ = some (.slice M1 N2 m1)) (go_keep)
          ((first
            | (go_at_call 23; refine (HZ.out).mono ?_; rintro e w16 ⟨rfl, rfl⟩)
            | (go_at_call 21; refine (HM.out).mono ?_; rintro e w16 ⟨v16, rfl, ho16, hb16⟩; obtain ⟨A16, c16, rfl, -, -, -, -⟩ := ho16.form; have kc := (hb16.cell (p := ⟨g', 1, none⟩) hgl).trans hc; have HP2 := Lib.hid (HPe.out _ hb16))
            | (go_at_call 24; refine (HP2.out).mono ?_; rintro e w17 ⟨rfl, rfl⟩)))
        go_wp2
        go_roundw
        case rel => exact ⟨k + 1, (pb, putW pw ds), putW qw [9], by omega, by go_num, by rw [Hpn.out, HS.out], hO, hO2, h15.below ⟨hb16.os, hb16.tape, hb16.output, hb16.size, hb16.block⟩⟩
        case measure => simp [intOf]; omega
      · have HS := Lib.hid (stepOp_write (p := (pb, pw)) (o := ⟨kd, ds, ks⟩) (.inr hk1))
        go_wp2_with fail
        obtain ⟨wo, hwo⟩ : ∃ x, x = wr.alloc (.cells #[.int .i64 kd, .slice X2 ds.length y2, .slice X3 ks.length y3] 34) := ⟨_, rfl⟩
        rw [← hwo] at h6
        rw [← hwo]
        clear hwo
        refine (Copy7_any X2 y2 w.heap.size ds wo (h6.rb hr2 (Nat.le_refl _)) h6.size (by omega)).mono ?_
        rintro e w9 ⟨v9, rfl, ho9, hb9⟩
        have h9 := h6.newOb ho9 hb9
        obtain ⟨A9, c9, rfl, -, -, -, -⟩ := ho9.form
        clear h6 ho9 hb9
        go_wp2_with fail
        refine (Append_any h9.bring2 A9 c9 _ ds h9.ob.reads.2.1 (by omega) (by omega)).mono ?_
        rintro e w10 ⟨rfl, h10⟩
        obtain ⟨-, x1, -⟩ := sp_cells h10.bring2
        clear h9
        go_wp2_with fail
        refine (same_yes A9 X2 ds.length c9 y2 _ _ ds _ h10.swap.ob.reads.2.1 (h10.rb hr2 (Nat.le_refl _)) rfl Hdl.out).mono ?_
        rintro e w11 ⟨rfl, n11, hw11⟩
        have h11 := h10.drewN n11
        rw [← hw11] at h11
        clear h10 hw11 x1
        go_wp2_with fail
        refine (St.spoil h11.swap (by omega)).mono ?_
        rintro e w12 ⟨rfl, h12⟩
        obtain ⟨-, x1, -⟩ := sp_cells h12.swap
        clear h11
        go_wp2_with fail
        refine (rfAppend_any h12.bring2 X2 y2 w.heap.size ds (h12.rb hr2 (Nat.le_refl _)) h12.size (by omega) (by omega)).mono ?_
        rintro e w13 ⟨rfl, h13⟩
        clear h12 x1
        go_wp2_with fail
        refine (Append_any (h13.bring3.alloc _) _ 1 (w13.heap.size + 1) [9] (RB.lit w13 5 (by unfold IsBytes; decide) _ rfl) (by simp; omega) (by omega)).mono ?_
        rintro e w14 ⟨rfl, h14⟩
        have h15 := h14.bring3.drop.swap.bring2
        have hT := seenOf_putW pb pw ds
        have hT1 : (seenOf pb (putW pw ds)).length ≤ 4194304 := by rw [hT, List.length_append]; omega
        have hT2 : (putW pw ds).length ≤ 4194304 := by have := putW_length pw ds; omega
        have hO : (putW qw [9]).length ≤ k + 1 := by have := putW_length qw [9]; omega
        have hO2 : (seenOf b (putW qw [9])).length ≤ b.length + (k + 1) := by rw [seenOf_putW]; simp; omega
        clear h13 h14 hT
        obtain ⟨S0, e0, S1, e1, hsr⟩ := sp_read h15
        obtain ⟨M0, m0, M1, m1, E, hE, hmr⟩ := rf_read h15.swap
        have hc := hmr.2.1.2
        have hEl : E.length = (putW pw ds).length := by rw [← hE, wsOf_length]
        have hM := rfSeen_new (w := (w14).drew) hmr (Nat.le_refl _) (by rw [hE]; omega) (by rw [hEl]; omega)
        have hZ := Size_new (w := (w14).drew) hsr
        have hP : ∀ w', Below (w14).drew.heap.size (w14).drew w' → Calls Try.prog 24 #[.pointer (some ⟨g, 0, none⟩)] w' fun e w'' => e = .returned (.int .i64 ((putW pw ds).length : Int)) ∧ w' = w'' := fun w' hb' => Pending_new (SpR.below (w := (w14).drew) hsr hb')
        rw [hE] at hM
        rw [hEl] at hc
        have hgl := hmr.1
        obtain ⟨T2, hT2'⟩ : ∃ T2, T2 = seenOf (pb) (putW pw ds) := ⟨_, rfl⟩
        obtain ⟨N2, hN2⟩ : ∃ N2, N2 = (putW pw ds).length := ⟨_, rfl⟩
        rw [← hT2'] at hM hZ
        rw [← hN2] at hP hc
        have HM := Lib.hid hM
        have HZ := Lib.hid hZ
        have HPe := Lib.hid hP
        have t1 : ((T2.length : Int) != (T2.length : Int)) = false := by simp
        have t2 : ((N2 : Int) != (N2 : Int)) = false := by simp
        clear hM hZ hP hsr hmr hE hEl hT2' hN2
        go_wp2_with fail
        go_region_held3 (fun w' => w'.cell? ⟨g', 1, none⟩ = some (.slice M1 N2 m1)) (go_keep)
          ((first
            | (go_at_call 23; refine (HZ.out).mono ?_; rintro e w16 ⟨rfl, rfl⟩)
            | (go_at_call 21; refine (HM.out).mono ?_; rintro e w16 ⟨v16, rfl, ho16, hb16⟩; obtain ⟨A16, c16, rfl, -, -, -, -⟩ := ho16.form; have kc := (hb16.cell (p := ⟨g', 1, none⟩) hgl).trans hc; have HP2 := Lib.hid (HPe.out _ hb16))
            | (go_at_call 24; refine (HP2.out).mono ?_; rintro e w17 ⟨rfl, rfl⟩)))
        go_wp2
        go_roundw
        case rel => exact ⟨k + 1, (pb, putW pw ds), putW qw [9], by omega, by go_num, by rw [Hpn.out, HS.out], hO, hO2, h15.below ⟨hb16.os, hb16.tape, hb16.output, hb16.size, hb16.block⟩⟩
        case measure => simp [intOf]; omega
      · have HS := Lib.hid (stepOp_sync (p := (pb, pw)) (o := ⟨kd, ds, ks⟩) hk2)
        go_wp2_with fail
        obtain ⟨wo, hwo⟩ : ∃ x, x = wr.alloc (.cells #[.int .i64 kd, .slice X2 ds.length y2, .slice X3 ks.length y3] 34) := ⟨_, rfl⟩
        rw [← hwo] at h6
        rw [← hwo]
        clear hwo
        refine (Sync_any h6.swap).mono ?_
        rintro e w9 ⟨rfl, h9⟩
        clear h6
        go_wp2_with fail
        refine (rfSync_any h9.bring2 (by omega) (by omega)).mono ?_
        rintro e w10 ⟨rfl, h10⟩
        have h15 := h10.bring2.drop.swap
        have hT1 : (seenOf (seenOf pb pw) []).length ≤ 4194304 := by simp [seenOf] at hql ⊢; omega
        have hT2 : ([] : List (List Nat)).length ≤ 4194304 := by simp
        have hO : qw.length ≤ k + 1 := by omega
        have hO2 : (seenOf b qw).length ≤ b.length + (k + 1) := by omega
        clear h9 h10
        obtain ⟨S0, e0, S1, e1, hsr⟩ := sp_read h15
        obtain ⟨M0, m0, M1, m1, E, hE, hmr⟩ := rf_read h15.swap
        have hc := hmr.2.1.2
        have hEl : E.length = (([] : List (List Nat))).length := by rw [← hE, wsOf_length]
        have hM := rfSeen_new (w := (w10).drew) hmr (Nat.le_refl _) (by rw [hE]; omega) (by rw [hEl]; omega)
        have hZ := Size_new (w := (w10).drew) hsr
        have hP : ∀ w', Below (w10).drew.heap.size (w10).drew w' → Calls Try.prog 24 #[.pointer (some ⟨g, 0, none⟩)] w' fun e w'' => e = .returned (.int .i64 ((([] : List (List Nat))).length : Int)) ∧ w' = w'' := fun w' hb' => Pending_new (SpR.below (w := (w10).drew) hsr hb')
        rw [hE] at hM
        rw [hEl] at hc
        have hgl := hmr.1
        obtain ⟨T2, hT2'⟩ : ∃ T2, T2 = seenOf (seenOf pb pw) (([] : List (List Nat))) := ⟨_, rfl⟩
        obtain ⟨N2, hN2⟩ : ∃ N2, N2 = (([] : List (List Nat))).length := ⟨_, rfl⟩
        rw [← hT2'] at hM hZ
        rw [← hN2] at hP hc
        have HM := Lib.hid hM
        have HZ := Lib.hid hZ
        have HPe := Lib.hid hP
        have t1 : ((T2.length : Int) != (T2.length : Int)) = false := by simp
        have t2 : ((N2 : Int) != (N2 : Int)) = false := by simp
        clear hM hZ hP hsr hmr hE hEl hT2' hN2
        go_wp2_with fail
        go_region_held3 (fun w' => w'.cell? ⟨g', 1, none⟩ = some (.slice M1 N2 m1)) (go_keep)
          ((first
            | (go_at_call 23; refine (HZ.out).mono ?_; rintro e w16 ⟨rfl, rfl⟩)
            | (go_at_call 21; refine (HM.out).mono ?_; rintro e w16 ⟨v16, rfl, ho16, hb16⟩; obtain ⟨A16, c16, rfl, -, -, -, -⟩ := ho16.form; have kc := (hb16.cell (p := ⟨g', 1, none⟩) hgl).trans hc; have HP2 := Lib.hid (HPe.out _ hb16))
            | (go_at_call 24; refine (HP2.out).mono ?_; rintro e w17 ⟨rfl, rfl⟩)))
        go_wp2
        go_roundw
        case rel => exact ⟨k + 1, (seenOf pb pw, ([] : List (List Nat))), qw, by omega, by go_num, by rw [Hpn.out, HS.out], hO, hO2, h15.below ⟨hb16.os, hb16.tape, hb16.output, hb16.size, hb16.block⟩⟩
        case measure => simp [intOf]; omega
      · have HS := Lib.hid (stepOp_look (p := (pb, pw)) (o := ⟨kd, ds, ks⟩) hk4.1 hk4.2.1 hk4.2.2)
        obtain ⟨z0, z1, z2⟩ := hk4
        go_wp2_with fail
        obtain ⟨wo, hwo⟩ : ∃ x, x = wr.alloc (.cells #[.int .i64 kd, .slice X2 ds.length y2, .slice X3 ks.length y3] 34) := ⟨_, rfl⟩
        rw [← hwo] at h6
        rw [← hwo]
        have hwz : wr.heap.size < wo.heap.size := by rw [hwo]; simp
        clear hwo
        obtain ⟨-, -, o2⟩ := sp_cells h6
        obtain ⟨S0, e0, S1, e1, hsr⟩ := sp_read h6.swap
        obtain ⟨M0, m0, M1, m1, E, hE, hmr⟩ := rf_read h6.bring2
        have hc := hmr.2.1.1
        have hgl := hmr.1
        have hEl : E.length = pw.length := by rw [← hE, wsOf_length]
        have hal := aft_len pb pw ks
        have hpl3 : pb.length ≤ (seenOf pb pw).length := by simp [seenOf]
        have hsz := h6.size
        have hrk := h6.rl hr3 (Nat.le_refl _)
        have Hbel := Lib.hid h6.bel
        obtain ⟨R, hR⟩ : ∃ R, R = aft pb 0 pw ks := ⟨_, rfl⟩
        obtain ⟨T, hT⟩ : ∃ T, T = seenOf pb pw := ⟨_, rfl⟩
        have Hl : Hid (R.length ≤ maxLen) := Lib.hid (by unfold maxLen; rw [hR]; omega)
        have Ht : Hid (T.length ≤ maxLen) := Lib.hid (by unfold maxLen; rw [hT]; omega)
        have Hb : Hid (pb.length ≤ maxLen) := Lib.hid (by unfold maxLen; omega)
        have HA : Hid (∀ w' A cap, Below wo.heap.size wo w' → RL bvl w' w'.heap.size A ks → Calls Try.prog 18 #[.pointer (some ⟨g, 0, none⟩), .slice A ks.length cap] w' (NewB R w')) := Lib.hid fun w' A cap hb' hr' => by
          rw [hR]
          have q1 := SpR.below hsr hb'
          have := hb'.size
          exact After_new ⟨by have := q1.1; omega, q1.2.1, q1.2.2.1.more this, q1.2.2.2.1.more this, q1.2.2.2.2⟩ (Nat.le_refl _) A cap ks hr' (by omega) (by omega) (by omega) Hne.out
        have HMA : Hid (∀ w', Below wo.heap.size wo w' → Calls Try.prog 19 #[.pointer (some ⟨g', 0, none⟩), .slice X3 ks.length y3] w' (NewB R w')) := Lib.hid fun w' hb' => by
          rw [hR, ← hE]
          exact rfAfter_new (RfR.below hmr hb') hb'.size X3 y3 ks ((hrk.below' hb' hsz).more hsz) (by rw [hE]; omega) (by omega) (by omega)
        have HSe : Hid (∀ w', Below wo.heap.size wo w' → Calls Try.prog 20 #[.pointer (some ⟨g, 0, none⟩)] w' (NewB T w')) := Lib.hid fun w' hb' => by
          rw [hT]
          exact Seen_new (SpR.below hsr hb') hb'.size (by omega)
        have HMS : Hid (∀ w', Below wo.heap.size wo w' → Calls Try.prog 21 #[.pointer (some ⟨g', 0, none⟩)] w' (NewB T w')) := Lib.hid fun w' hb' => by
          rw [hT, ← hE]
          exact rfSeen_new (RfR.below hmr hb') hb'.size (by rw [hE]; omega) (by omega)
        have HSa : Hid (∀ w', Below wo.heap.size wo w' → Calls Try.prog 22 #[.pointer (some ⟨g, 0, none⟩)] w' (NewB pb w')) := Lib.hid fun w' hb' => Safe_new (SpR.below hsr hb') hb'.size (by omega)
        have HMb : Hid (∀ w', Below wo.heap.size wo w' → RB w' wo.heap.size M0 pb) := Lib.hid fun w' hb' => hmr.2.2.1.below hb'
        have hnil : (([] : List Bool).length + ks.length) * 1 ≤ 140737488355328 := by simp; omega
        have Ho2 : Hid (∀ w', Below wo.heap.size wo w' → w'.cell? ⟨wr.heap.size, 2, none⟩ = some (.slice X3 ks.length y3) ∧ w'.cell? ⟨g', 0, none⟩ = some (.slice M0 pb.length m0)) := Lib.hid fun w' hb' => ⟨(hb'.cell (p := ⟨wr.heap.size, 2, none⟩) hwz).trans o2, (hb'.cell (p := ⟨g', 0, none⟩) hgl).trans hc⟩
        have hba : Below wo.heap.size wo (wo.alloc (.cells #[] 4)) := (Below.refl _ _).alloc (Nat.le_refl _) _
        have HK : Hid (RL bvl (wo.alloc (.cells #[] 4)) w.heap.size X3 ks) := Lib.hid (hrk.alloc hsz _)
        obtain ⟨a2, a0⟩ := Ho2.out _ hba
        have hown0 : OL bvl (wo.alloc (.cells #[] 4)) wo.heap.size 4 (.slice (some ⟨wo.heap.size, 0, none⟩) 0 0) [] := ⟨fun x hx => (by cases hx), World.ownsRow_lit wo #[] 0 (Nat.le_refl _) (Nat.zero_le _) rfl⟩
        have HO0 := Lib.hid hown0
        have Hba := Lib.hid hba
        have nw1 := World.new_ne wo ⟨wr.heap.size, 2, none⟩ o2
        have nw2 := World.new_ne wo ⟨g', 0, none⟩ hc
        clear hsr hmr hE hEl hal hR hT hrk hown0 hba z0 z1 z2 k0 k1 k2 hr2 hr3 hr0 hbt hbk
        go_region_held3 (fun w' => w'.cell? ⟨wr.heap.size, 2, none⟩ = some (.slice X3 ks.length y3) ∧ w'.cell? ⟨g', 0, none⟩ = some (.slice M0 pb.length m0)) (go_keep)
          ((first
            | (go_at_call 18; refine (HA.out w7 A7 c7 hb7.out r7.out).mono ?_; rintro e w8 ⟨v8, rfl, ho8, hb8⟩; obtain ⟨A8, c8, rfl, -, -, -, -⟩ := ho8.form; have hc8 := Lib.hid (hb7.out.trans (hb8.mono hb7.out.size)); obtain ⟨s82, s80⟩ := Ho2.out w8 hc8.out; clear hb8)
            | (go_at_call 19; refine (HMA.out w8 hc8.out).mono ?_; rintro e w9 ⟨v9, rfl, ho9, hb9⟩; obtain ⟨A9, c9, rfl, -, -, -, -⟩ := ho9.form; have r8 := Lib.hid (ho8.below' hb9).reads.2.1; have r9 := Lib.hid ho9.reads.2.1; have hc9 := Lib.hid (hc8.out.trans (hb9.mono hc8.out.size)); obtain ⟨s92, s90⟩ := Ho2.out w9 hc9.out; clear ho8 ho9 hb9)
            | (go_at_call 11; (with_reducible refine (same_yes A8 A9 R.length c8 c9 _ _ R w9 r8.out r9.out rfl Hl.out).mono ?_); rintro e w10 ⟨rfl, n10, hw10⟩; have hc10 := Lib.hid (below_drewN hc9.out n10); rw [← hw10] at hc10; obtain ⟨s102, s100⟩ := Ho2.out w10 hc10.out; clear hw10)
            | (go_at_call 20; refine (HSe.out w10 hc10.out).mono ?_; rintro e w11 ⟨v11, rfl, ho11, hb11⟩; obtain ⟨A11, c11, rfl, -, -, -, -⟩ := ho11.form; have hc11 := Lib.hid (hc10.out.trans (hb11.mono hc10.out.size)); obtain ⟨s112, s110⟩ := Ho2.out w11 hc11.out; clear hb11)
            | (go_at_call 21; refine (HMS.out w11 hc11.out).mono ?_; rintro e w12 ⟨v12, rfl, ho12, hb12⟩; obtain ⟨A12, c12, rfl, -, -, -, -⟩ := ho12.form; have r11 := Lib.hid (ho11.below' hb12).reads.2.1; have r12 := Lib.hid ho12.reads.2.1; have hc12 := Lib.hid (hc11.out.trans (hb12.mono hc11.out.size)); obtain ⟨s122, s120⟩ := Ho2.out w12 hc12.out; clear ho11 ho12 hb12)
            | (go_at_call 11; (with_reducible refine (same_yes A11 A12 T.length c11 c12 _ _ T w12 r11.out r12.out rfl Ht.out).mono ?_); rintro e w13 ⟨rfl, n13, hw13⟩; have hc13 := Lib.hid (below_drewN hc12.out n13); rw [← hw13] at hc13; obtain ⟨s132, s130⟩ := Ho2.out w13 hc13.out; clear hw13)
            | (go_at_call 22; refine (HSa.out w13 hc13.out).mono ?_; rintro e w14 ⟨v14, rfl, ho14, hb14⟩; obtain ⟨A14, c14, rfl, -, -, -, -⟩ := ho14.form; have r14 := Lib.hid ho14.reads.2.1; have hc14 := Lib.hid (hc13.out.trans (hb14.mono hc13.out.size)); obtain ⟨s142, s140⟩ := Ho2.out w14 hc14.out; clear ho14 hb14)
            | (go_at_call 11; (with_reducible refine (same_yes A14 M0 pb.length c14 m0 _ _ pb w14 r14.out (HMb.out w14 hc14.out) rfl Hb.out).mono ?_); rintro e w15 ⟨rfl, n15, hw15⟩; have hc15 := Lib.hid (below_drewN hc14.out n15); rw [← hw15] at hc15; obtain ⟨s152, s150⟩ := Ho2.out w15 hc15.out; clear hw15)
            | (refine step_append_list _ (by rfl) _ _ _ (by rfl) wo.heap.size 4 j0 (.bool false) 1 Try.underlying32 hj hy0 hy1 hy2 rfl (.slice (some ⟨wo.heap.size, 0, none⟩) 0 0) [] (by rfl) HO0.out X3 y3 w.heap.size ks ks.length rfl (by rfl) HK.out hnil (by omega) (by simp) ?_; intro v7 w7 hown7 hg7 hat7; rw [List.nil_append] at hown7; have hb7 := Lib.hid ((Below.drew Hba.out).grown hg7 (by simp) (fun k hk => by simp [Value.ownBlock] at hk; omega)); obtain ⟨A7, c7, rfl, -, -, -, -⟩ := hown7.form; have r7 := Lib.hid hown7.reads.2.1; obtain ⟨s72, s70⟩ := Ho2.out w7 hb7.out; clear hown7 hg7 hat7)))
        have h15 := h6.drop.below hc15.out
        have hT1 : (seenOf pb pw).length ≤ 4194304 := by omega
        have hT2 : pw.length ≤ 4194304 := by omega
        have hO : qw.length ≤ k + 1 := by omega
        have hO2 : (seenOf b qw).length ≤ b.length + (k + 1) := by omega
        clear s152 s150 h6
        obtain ⟨S0, e0, S1, e1, hsr⟩ := sp_read h15
        obtain ⟨M0, m0, M1, m1, E, hE, hmr⟩ := rf_read h15.swap
        have hc := hmr.2.1.2
        have hEl : E.length = (pw).length := by rw [← hE, wsOf_length]
        have hM := rfSeen_new (w := (w15).drew) hmr (Nat.le_refl _) (by rw [hE]; omega) (by rw [hEl]; omega)
        have hZ := Size_new (w := (w15).drew) hsr
        have hP : ∀ w', Below (w15).drew.heap.size (w15).drew w' → Calls Try.prog 24 #[.pointer (some ⟨g, 0, none⟩)] w' fun e w'' => e = .returned (.int .i64 ((pw).length : Int)) ∧ w' = w'' := fun w' hb' => Pending_new (SpR.below (w := (w15).drew) hsr hb')
        rw [hE] at hM
        rw [hEl] at hc
        have hgl := hmr.1
        obtain ⟨T2, hT2'⟩ : ∃ T2, T2 = seenOf (pb) (pw) := ⟨_, rfl⟩
        obtain ⟨N2, hN2⟩ : ∃ N2, N2 = (pw).length := ⟨_, rfl⟩
        rw [← hT2'] at hM hZ
        rw [← hN2] at hP hc
        have HM := Lib.hid hM
        have HZ := Lib.hid hZ
        have HPe := Lib.hid hP
        have t1 : ((T2.length : Int) != (T2.length : Int)) = false := by simp
        have t2 : ((N2 : Int) != (N2 : Int)) = false := by simp
        clear hM hZ hP hsr hmr hE hEl hT2' hN2
        go_wp2_with fail
        go_region_held3 (fun w' => w'.cell? ⟨g', 1, none⟩ = some (.slice M1 N2 m1)) (go_keep)
          ((first
            | (go_at_call 23; refine (HZ.out).mono ?_; rintro e w16 ⟨rfl, rfl⟩)
            | (go_at_call 21; refine (HM.out).mono ?_; rintro e w16 ⟨v16, rfl, ho16, hb16⟩; obtain ⟨A16, c16, rfl, -, -, -, -⟩ := ho16.form; have kc := (hb16.cell (p := ⟨g', 1, none⟩) hgl).trans hc; have HP2 := Lib.hid (HPe.out _ hb16))
            | (go_at_call 24; refine (HP2.out).mono ?_; rintro e w17 ⟨rfl, rfl⟩)))
        go_wp2
        go_roundw
        case rel => exact ⟨k + 1, (pb, pw), qw, by omega, by go_num, by rw [Hpn.out, HS.out], hO, hO2, h15.below ⟨hb16.os, hb16.tape, hb16.output, hb16.size, hb16.block⟩⟩
        case measure => simp [intOf]; omega
    · have hbk := spBulk_play b (L.take k)
      have hbt := opsBulk_take L k
      rw [← hp] at hbk
      obtain ⟨pb, pw⟩ := p
      unfold spBulk at hbk
      simp only at h5 hbk
      obtain ⟨T, hT⟩ : ∃ T, T = seenOf pb pw := ⟨_, rfl⟩
      have HT := Lib.hid hT
      have hTl : T.length ≤ 4194304 := by rw [hT]; omega
      have hwl : pw.length ≤ 4194304 := by omega
      have Ht : Hid (T.length ≤ maxLen) := Lib.hid (by unfold maxLen; omega)
      clear hp hbk hT
      go_wp2_with fail
      refine (Safe_any h5.bring2 (by omega)).mono ?_
      rintro e w9 ⟨v9, rfl, h9⟩
      obtain ⟨A9, c9, rfl, -, -, -, -⟩ := h9.ob.form
      clear h5
      go_wp2_with fail
      refine (same_yes A9 A0 b.length c9 c0 _ _ b _ h9.ob.reads.2.1 (h9.rb hb (Nat.le_refl _)) rfl Hlb.out).mono ?_
      rintro e w10 ⟨rfl, n10, hw10⟩
      have h10 := h9.drop.drewN n10
      rw [← hw10] at h10
      clear h9 hw10
      go_wp2_with fail
      refine (Seen_any h10.swap (by rw [← HT.out]; omega)).mono ?_
      rintro e w11 ⟨v11, rfl, h11⟩
      rw [← HT.out] at h11
      obtain ⟨A11, c11, rfl, -, -, -, -⟩ := h11.ob.form
      clear h10
      go_wp2_with fail
      refine (rfSeen_any h11.bring3 (by rw [← HT.out]; omega) (by omega)).mono ?_
      rintro e w12 ⟨v12, rfl, h12⟩
      rw [← HT.out] at h12
      obtain ⟨A12, c12, rfl, -, -, -, -⟩ := h12.ob.form
      clear h11
      go_wp2_with fail
      refine (same_yes A11 A12 T.length c11 c12 _ _ T _ h12.bring2.ob.reads.2.1 h12.ob.reads.2.1 rfl Ht.out).mono ?_
      rintro e w13 ⟨rfl, n13, hw13⟩
      have h13 := h12.drewN n13
      rw [← hw13] at h13
      have hbel := h13.bel
      clear h12 h13 hw13
      go_wp2
      go_ret
      exact ⟨rfl, hbel⟩

/-! ### THE ROW's STEP -/
theorem own : ownKnob Try.prog.godebug = none := by kernel_rfl
theorem laidOut : laidOutB Try.prog = true := by kernel_rfl

theorem contract (H : Type) (enc : TypeId × Value → H) (W : World) (base : Nat) (args : Array Value) (ds gs : List (DataW H)) (before : List MemPlace)
    (hval0 : ∀ (j : Nat) t v, Try.f3.params[j]? = some t → args[j]? = some v → Value.okWide Try.prog W .any base t v)
    (hW : DataW.Whole enc Try.prog Try.f3.params.toList Rows.spoolPlaysSpec.vars false W args.toList ds gs before)
    (hk : Rows.uptoSmall H (ds ++ gs) = true)
    (hsz : (DataW.weightsEach Try.prog (Try.f3.params.toList ++ (Rows.OpenSpec.upto Rows.spoolPlaysSpec).bare.plain.varTypes Try.prog) (ds ++ gs)).all (· ≤ reachBytes) = true) :
    Calls Try.prog 3 args W fun e W' => ∃ v, e = .returned v ∧ Rows.spoolPlaysSpec.post enc Try.prog Try.f3 false true false false W args v W' := by
  have hval : ∀ (j : Nat) t v, Try.f3.params[j]? = some t → args[j]? = some v → Value.okWide Try.prog W .any base t v := hval0
  have hW' := hW
  obtain ⟨p, q, hA0, hV, rfl, hfz, hnd⟩ := hW
  have hA : DataW.TrodAll enc Try.prog W 0 (fun _ => true) true Try.f3.params.toList args.toList ds p := hA0
  rw [Try.params3] at hA hval
  obtain ⟨v0, vs0, d0, ds0, p0, q0, hargs, rfl, rfl, h0, r0⟩ := trodAll_cons hA
  obtain ⟨v1, vs1, d1, ds1, p1, q1, rfl, rfl, rfl, h1, r1⟩ := trodAll_cons r0
  obtain ⟨rfl, rfl, rfl⟩ := trodAll_nil r1
  obtain rfl : args = #[v0, v1] := by cases args; simp_all
  obtain ⟨rfl, rfl⟩ := trodVars_none hV
  have k0 := h0
  have lt0 : ∀ x ∈ p0, x.block < W.heap.size := by obtain ⟨m, hm⟩ := k0; exact DataW.trod_lt m _ _ _ hm
  have w0 := reach_at hsz (j := 0) rfl rfl
  have u0 : Rows.uptoBulk d0 ≤ 1048576 := bulk_at hk (by simp)
  have k1 := h1
  have lt1 : ∀ x ∈ p1, x.block < W.heap.size := by obtain ⟨m, hm⟩ := k1; exact DataW.trod_lt m _ _ _ hm
  have w1 := reach_at hsz (j := 1) rfl rfl
  have u1 : Rows.uptoBulk d1 ≤ 1048576 := bulk_at hk (by simp)
  clear hA0 hval0 hsz
  obtain ⟨A0, n0, c0, rfl⟩ := okWide_slice Try.underlying22 (hval 0 22 v0 rfl rfl)
  have ub0 := Nat.le_trans (bytes_bulk Try.underlying22 Try.underlying5 (by kernel_rfl) k0) u0
  obtain ⟨b0, rfl, rb0, cb0, mb0⟩ := open_bytes Try.underlying22 Try.underlying5 (by kernel_rfl) (by kernel_rfl) w0 h0
  obtain ⟨A1, n1, c1, rfl, hx1⟩ := open_opsU (hval 1 _ v1 rfl rfl) w1 h1 lt1 u1
  refine (walk W rb0 cb0 mb0 ub0 hx1).mono fun e W' ⟨he, bel⟩ => ?_
  subst he
  exact ⟨_, rfl, _, _, _, [], _, [], hW', trodAll_mk1 (shut_bool Try.underlying4 _), (trodAll_cons_mk (Below.trod laidOut (by kernel_rfl) (of_decide_eq_true (by kernel_rfl)) k0 bel lt0) (trodAll_cons_mk (Below.trod laidOut (by kernel_rfl) (of_decide_eq_true (by kernel_rfl)) k1 bel lt1) trodAll_mk0)), rfl, bel.frame _, fun h => by cases h⟩

set_option maxRecDepth 100000 in
theorem lifted (os : Os) (started : os.Started) (H : Type) (enc : TypeId × Value → H) (F : Stop.Interp) :
    ReturnsInHanded {} Try.checked os 3 .any ((Rows.OpenSpec.upto Rows.spoolPlaysSpec).pre6 enc Try.prog Try.f3 Rows.spoolPlaysUptoRow.domain false) (((Rows.OpenSpec.upto Rows.spoolPlaysSpec).at F).post enc Try.prog Try.f3 false true false false) := by
  refine returnsInHanded_of_cond_sized (C := Try.checked) (s := (Rows.OpenSpec.upto Rows.spoolPlaysSpec)) (k := Rows.uptoSmall) rfl own started (by kernel_rfl) Try.func3
    (OpenSpec.witness (enc := enc) (C := Try.checked) (s := (Rows.OpenSpec.upto Rows.spoolPlaysSpec)) (k := Rows.uptoSmall) rfl false ⟨#[], #[.slice none 0 0, .slice none 0 0], []⟩ 8 (by kernel_rfl) (by kernel_rfl) (by kernel_rfl)
      (x := ([.nil, .nil], [], [])) (by kernel_rfl) rfl (by kernel_rfl)) ?_
  intro W base args ds gs before hval hW _ hk hsz _
  exact contract H enc W base args ds gs before hval hW hk hsz

/-- THE STATEMENT -/
theorem proved : Rows.SpoolPlaysUptoSaid :=
  OpenClaim.holds_of_cond 3 Try.f3 rfl rfl rfl rfl rfl rfl rfl ⟨rfl, rfl, rfl, rfl, rfl⟩ rfl rfl rfl rfl rfl (by kernel_rfl) Try.func3 (by kernel_rfl)
    (of_decide_eq_true (by kernel_rfl)) (by unfold Func.isWrapper; rw [if_neg (of_decide_eq_false (by kernel_rfl))]; exact ⟨rfl, rfl⟩)
    (fun os started H enc _ F => lifted os started H enc F)
end Go.Proofs.Ytkpmnmgnfgfhaaa.spoolPlays
