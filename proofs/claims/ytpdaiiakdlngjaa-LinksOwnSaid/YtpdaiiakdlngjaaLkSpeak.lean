/- links: the law's speaks. -/
import Derived.Test.YtpdaiiakdlngjaaLkThree
import Derived.Test.YtpdaiiakdlngjaaLk6
import Derived.Test.YtpdaiiakdlngjaaLk7
namespace Go.Proofs.Ytpdaiiakdlngjaa
open Go.RowKit
set_option linter.unusedVariables false

theorem RL.litI (w : World) (e : TypeId) (L : List Int) (cs : Array Value) (hcs : cs.toList = L.map ivl) (hm : L.length ≤ maxLen) : RL ivl (w.alloc (.cells cs e)) (w.heap.size + 1) (some ⟨w.heap.size, 0, none⟩) L := by
  have h := World.ownsRow_lit (base := 0) (e := e) (size := 1) w cs L.length (Nat.zero_le _) hm (by rw [← Array.length_toList, hcs, List.length_map, Nat.mul_one])
  rw [hcs] at h
  have := RL.of_own (f := ivl) (fun x _ => ivl_ok x) h
  simpa using this
def t3L : List LkC := [⟨true, 5, 6, 2, -1, 1, -1⟩, ⟨true, 5, 5, 0, -1, -1, -1⟩, ⟨true, 6, 5, -1, -1, -1, 0⟩]
theorem sp_chk : chk threeL 5 [2, 0, 1] = 0 := by decide
theorem sp_thr : thrP threeL 5 [2, 0, 1] = t3L := by kernel_rfl
theorem sp_w1 : walkP t3L 5 2 = ([2, 0, 1], 0) := by kernel_rfl
theorem sp_w2 : walkP t3L 5 0 = ([], 101) := by kernel_rfl
theorem sp_inc : incK t3L 6 3 = [0, 2] := by kernel_rfl
set_option maxRecDepth 100000 in
set_option maxHeartbeats 2000000 in
theorem lkSpeaks_any (w : World) : Calls Try.prog 10 #[] w fun e w' => e = .returned (.bool true) ∧ Below w.heap.size w w' := by
  have H1 := Lib.hid (three_any w)
  go_enter Try.func10, Try.ntmps10
  go_upto_region 2 with (first
    | (go_at_call 20; refine (H1.out).mono ?_; rintro e w1 ⟨v1, rfl, ho1, hb1⟩; have h1 := ((St.start Zf w).newOw ho1 hb1); obtain ⟨A1, c1, rfl, -, -, hr1⟩ := h1.owForm; have h1a := h1.newBlk 3 #[.int .i64 2, .int .i64 0, .int .i64 1]; have HT := Lib.hid (Thread_any A1 c1 w1.heap.size threeL 5 (some ⟨w1.heap.size, 0, none⟩) 3 (w1.heap.size + 1) [2, 0, 1] _ (hr1.alloc (Nat.le_refl _) (.cells #[.int .i64 2, .int .i64 0, .int .i64 1] 3)) (by simp) (by decide) (RL.litI w1 3 [2, 0, 1] _ rfl (by decide)) (by simp) (by decide) (by intro x hx; simp at hx; unfold inI; omega)); have H1a := Lib.hid h1a.drop; clear ho1 hb1 h1 h1a hr1)
    | (go_at_call 16; refine (HT.out).mono ?_; rintro e w2 ⟨v2, rfl, ho2, hb2⟩; rw [sp_thr] at ho2; rw [sp_chk]; have h2 := H1a.out.newOw ho2 hb2; clear ho2 hb2))
  obtain ⟨A2, c2, rfl, -, -, hr2⟩ := h2.owForm
  obtain ⟨g, hg, -⟩ := h2.storeRow lkc_f (k := 0) rfl (by decide) default
  subst hg
  have c20 := (lk_cells (h2.rowAt lkc_f (k := 2) (by decide))).2.2.2.2.2.2
  have c3 := (lk_cells (h2.rowAt lkc_f (k := 0) (by decide))).2.2.2.1
  have c5 := (lk_cells (h2.rowAt lkc_f (k := 0) (by decide))).2.2.2.2.2.1
  have c10 := (lk_cells (h2.rowAt lkc_f (k := 1) (by decide))).2.2.2.1
  have c20 : w2.cell? ⟨g, 20, none⟩ = some (.int .i64 0) := c20
  have c3 : w2.cell? ⟨g, 3, none⟩ = some (.int .i64 2) := c3
  have c5 : w2.cell? ⟨g, 5, none⟩ = some (.int .i64 1) := c5
  have c10 : w2.cell? ⟨g, 10, none⟩ = some (.int .i64 0) := c10
  have HW := fun (W : World) (hr : RR lkc 7 W w2.heap.size (some ⟨g, 0, none⟩) t3L) (hB : w2.heap.size ≤ W.heap.size) (hd : Int) => Walk_any (some ⟨g, 0, none⟩) c2 w2.heap.size t3L 5 hd W hr hB (by decide)
  have HI := fun (W : World) (hr : RR lkc 7 W w2.heap.size (some ⟨g, 0, none⟩) t3L) (hB : w2.heap.size ≤ W.heap.size) => Incident_any (some ⟨g, 0, none⟩) c2 w2.heap.size t3L 6 W hr hB (by decide)
  have HW3 := Lib.hid (HW w2 hr2 (Nat.le_refl _) 2)
  have HWX := Lib.hid HW
  have HIX := Lib.hid HI
  have H2 := Lib.hid h2
  have HR2 := Lib.hid hr2
  clear HW HI h2 hr2 H1a HT H1
  go_upto_region 5 with (go_at_call 18; refine (HW3.out).mono ?_; rintro e w3 ⟨v3, rfl, ho3, hb3⟩; rw [sp_w1] at ho3 ⊢; have h3 := H2.out.newOl ho3 hb3; have hr3 := HR2.out.below' hb3 (Nat.le_refl _); have HW4 := Lib.hid (HWX.out w3 hr3 hb3.size 0); have s3 := Lib.hid hb3.size; clear c20 c3 c5 c10)
  obtain ⟨A3, c3, rfl, -, -, -, -⟩ := h3.ol.form
  have H3 := Lib.hid h3
  have HR3 := Lib.hid hr3
  clear h3 hr3 ho3 hb3
  go_upto_region 6 with (go_at_call 18; refine (HW4.out).mono ?_; rintro e w4 ⟨v4, rfl, ho4, hb4⟩; rw [sp_w2] at ho4 ⊢; have h4 := H3.out.below hb4; have hr4 := HR3.out.below' hb4 s3.out; have s4 := Lib.hid (Nat.le_trans s3.out hb4.size))
  have h4b := h4.newBlk 3 #[.int .i64 2, .int .i64 0, .int .i64 1]
  have S4 := Lib.hid (sameInts_yes A3 (some ⟨w4.heap.size, 0, none⟩) 3 c3 3 w4.heap.size (w4.heap.size + 1) [2, 0, 1] (w4.alloc (.cells #[.int .i64 2, .int .i64 0, .int .i64 1] 3)) (h4.ol.reads.2.1.alloc (Nat.le_refl _) _) (RL.litI w4 3 [2, 0, 1] _ rfl (by decide)) rfl (by decide))
  have H4b := Lib.hid h4b.drop.swap
  have HR4 := Lib.hid hr4
  clear h4 h4b hr4 ho4 hb4
  go_wp2_with (first
    | (go_at_call 12; refine (S4.out).mono ?_; rintro e w5 ⟨rfl, n5, hw5⟩; have h5 := H4b.out.drewN n5; rw [← hw5] at h5; have hr5 : RR lkc 7 w5 w2.heap.size (some ⟨g, 0, none⟩) t3L := by { rw [hw5]; exact HR4.out.alloc s4.out _ }; have HI5 := Lib.hid (HIX.out w5 hr5 (by rw [hw5]; have := s4.out; simp; omega)); have H5 := Lib.hid h5; clear hw5 h5 hr5 S4)
    | (go_at_call 13; refine (HI5.out).mono ?_; rintro e w6 ⟨v6, rfl, ho6, hb6⟩; rw [show t3L.length = 3 from rfl, sp_inc] at ho6; have h6 := H5.out.newOl ho6 hb6; obtain ⟨A6, c6, rfl, -, -, -, -⟩ := h6.ol.form; have h6b := Lib.hid (h6.newBlk 3 #[.int .i64 0, .int .i64 2]); have S6 := Lib.hid (sameInts_yes A6 (some ⟨w6.heap.size, 0, none⟩) 2 c6 2 w6.heap.size (w6.heap.size + 1) [0, 2] (w6.alloc (.cells #[.int .i64 0, .int .i64 2] 3)) (h6.ol.reads.2.1.alloc (Nat.le_refl _) _) (RL.litI w6 3 [0, 2] _ rfl (by decide)) rfl (by decide)); clear h6 ho6 hb6)
    | (go_at_call 12; refine (S6.out).mono ?_; rintro e w7 ⟨rfl, n7, hw7⟩; have h7 := h6b.out.drewN n7; rw [← hw7] at h7; have H7 := Lib.hid h7.bel; clear hw7 h7))
  go_ret
  exact ⟨rfl, H7.out⟩
end Go.Proofs.Ytpdaiiakdlngjaa
