/- The document's GetRel. -/
import Derived.Test.YtpoaokkmmoeekaaRcPureRelA
import Derived.Test.YtpoaokkmmoeekaaRcRelA
import Derived.Test.YtpoaokkmmoeekaaStr
namespace Go.Proofs.Ytpoaokkmmoeekaa
open Go.RowKit
set_option linter.unusedVariables false

def refGE (bs : List Nat) : Int := if bs.length = 30 then (if refRelOk (linkC bs) = true then 0 else 41) else 4
theorem wrapI64 (n : Int) : IntKind.i64.wrap n = wrap64 n := by
  rw [wrap64_eq]
  simp only [IntKind.wrap, IntKind.bits, IntKind.signed, Bool.true_and, decide_eq_true_eq, show (2 : Int) ^ 64 = 18446744073709551616 from rfl, show (2 : Int) ^ (64 - 1) = 9223372036854775808 from rfl]
  split <;> omega
theorem z9_one : (#[.bool false, .int .i64 0, .int .i64 0, .int .i64 0, .int .i64 0, .int .i64 0, .int .i64 0, .int .i64 0, .int .i64 0] : Array Value).all (·.oneCell') = true := by rw [← Array.all_toList]; rfl
set_option maxRecDepth 100000 in
set_option maxHeartbeats 8000000 in
theorem refGetRel_any (A : Option Addr) (cap B : Nat) (bs : List Nat) (w : World) (h : RB w B A bs) (hB : B ≤ w.heap.size) (hc : bs.length ≤ cap) (hm : cap ≤ maxLen) :
    Calls Try.prog 21 #[.slice A bs.length cap] w (RelReadB (linkC bs) (refGE bs) w) := by
  have h0 := ((St.start Zf w).newBlk 44 #[.bool false, .int .i64 0, .int .i64 0, .int .i64 0, .int .i64 0, .int .i64 0, .int .i64 0, .int .i64 0, .int .i64 0]).newBlk 44 #[.bool false, .int .i64 0, .int .i64 0, .int .i64 0, .int .i64 0, .int .i64 0, .int .i64 0, .int .i64 0, .int .i64 0]
  have e0 : (w.alloc (.cells #[.bool false, .int .i64 0, .int .i64 0, .int .i64 0, .int .i64 0, .int .i64 0, .int .i64 0, .int .i64 0, .int .i64 0] 44)).heap.size = w.heap.size + 1 := by simp
  rw [e0] at h0
  obtain ⟨wo, hwo⟩ : ∃ wo, wo = (w.alloc (.cells #[.bool false, .int .i64 0, .int .i64 0, .int .i64 0, .int .i64 0, .int .i64 0, .int .i64 0, .int .i64 0, .int .i64 0] 44)).alloc (.cells #[.bool false, .int .i64 0, .int .i64 0, .int .i64 0, .int .i64 0, .int .i64 0, .int .i64 0, .int .i64 0, .int .i64 0] 44) := ⟨_, rfl⟩
  rw [← hwo] at h0
  have hi9 : (Try.prog.info? 44).map (·.size) = some 9 := by kernel_rfl
  have oz := z9_one
  have Hwo := Lib.hid hwo
  have H0 := Lib.hid h0
  unfold RelReadB refGE
  by_cases hl : bs.length = 30
  · rw [if_pos hl]
    have hrr := h0.rb h hB
    have HL := Lib.hid (Link_any A cap wo.heap.size bs wo (hrr.more (by have := h0.size; omega)) (Nat.le_refl _) hc hm (by omega))
    have hby := h.1
    have l26 := atN_lt bs hby 26 4 (by omega) (by omega)
    have s26 : IntKind.i64.wrap (((atN bs 26 4 : Nat) : Int) - 1) = (linkC bs).pr := (wrapI64 _).trans (sub_one l26)
    have hP : ∀ W, Calls Try.prog 19 #[.agg #[.bool true, .int .i64 (linkC bs).fr, .int .i64 (linkC bs).to, .int .i64 (linkC bs).fp, .int .i64 (linkC bs).tp, .int .i64 (linkC bs).fn, .int .i64 (linkC bs).tn, .int .i64 (linkC bs).ty, .int .i64 (linkC bs).pr]] W (RefPut (refRelOk (linkC bs)) (refRelB (linkC bs)) W) := fun W => refPutRel_any (linkC bs) W
    rw [relB_back bs hby hl] at hP
    unfold RefPut at hP
    obtain ⟨ok, hok⟩ : ∃ ok, ok = refRelOk (linkC bs) := ⟨_, rfl⟩
    rw [← hok] at hP ⊢
    obtain ⟨a26, h26⟩ : ∃ a, a = atN bs 26 4 := ⟨_, rfl⟩
    rw [← h26] at s26
    have HA : ∀ W, RB W B A bs → Hid (Calls Try.prog 35 #[.slice A bs.length cap, .int .i64 26, .int .i64 4] W fun e w' => e = .returned (.int .i64 (a26 : Int)) ∧ W = w') := fun W hW => Lib.hid (by rw [h26]; exact at_any A cap B bs 26 4 W hW hc hm (by omega) (by omega))
    obtain ⟨z0, hz0⟩ : ∃ z, z = (linkC bs).fr := ⟨_, rfl⟩
    obtain ⟨z1, hz1⟩ : ∃ z, z = (linkC bs).to := ⟨_, rfl⟩
    obtain ⟨z2, hz2⟩ : ∃ z, z = (linkC bs).fp := ⟨_, rfl⟩
    obtain ⟨z3, hz3⟩ : ∃ z, z = (linkC bs).tp := ⟨_, rfl⟩
    obtain ⟨z4, hz4⟩ : ∃ z, z = (linkC bs).fn := ⟨_, rfl⟩
    obtain ⟨z5, hz5⟩ : ∃ z, z = (linkC bs).tn := ⟨_, rfl⟩
    obtain ⟨z6, hz6⟩ : ∃ z, z = (linkC bs).ty := ⟨_, rfl⟩
    obtain ⟨z7, hz7⟩ : ∃ z, z = (linkC bs).pr := ⟨_, rfl⟩
    rw [← hz0, ← hz1, ← hz2, ← hz3, ← hz4, ← hz5, ← hz6] at HL
    rw [← hz7] at s26
    rw [← hz0, ← hz1, ← hz2, ← hz3, ← hz4, ← hz5, ← hz6, ← hz7] at hP ⊢
    have HS := fun (W : World) (l : List Ass) (hs : St Zf l w W) => Lib.hid (hs.rb h hB)
    have hl' : ((bs.length : Int) != 30) = false := by simp [hl]
    have HLEN := Lib.hid hl
    clear hok h26 hrr l26 hz0 hz1 hz2 hz3 hz4 hz5 hz6 hz7 h0 hwo e0 hl
    have hdr : ∀ {W : World} {l : List Ass} [Stable (Sep l)], St Zf l w W → St Zf l w W.drew := fun h => h.drew
    cases ok
    · simp only [Bool.false_eq_true, if_false] at hP
      simp only [Bool.false_eq_true, if_false]
      have HP := fun W => Lib.hid (hP W)
      clear hP
      go_enter Try.func21, Try.ntmps21
      go_upto_region 2 with fail
      rw [← Hwo.out]
      go_upto_region 5 with (go_at_call 42; refine (HL.out).mono ?_; rintro e w3 ⟨rfl, hb3⟩; have h4 := Lib.hid ((H0.out.below hb3).newBlk 42 #[.bool true, .int .i64 z0, .int .i64 z1, .int .i64 z2, .int .i64 z3, .int .i64 z4, .int .i64 z5]); clear hb3)
      obtain ⟨w4, hw4⟩ : ∃ w4, w4 = w3.alloc (.cells #[.bool true, .int .i64 z0, .int .i64 z1, .int .i64 z2, .int .i64 z3, .int .i64 z4, .int .i64 z5] 42) := ⟨_, rfl⟩
      rw [← hw4] at h4 ⊢
      obtain ⟨d0, d1, d2, d3, d4, d5, d6⟩ : w4.cell? ⟨w3.heap.size, 0, none⟩ = some (.bool true) ∧ w4.cell? ⟨w3.heap.size, 1, none⟩ = some (.int .i64 z0) ∧ w4.cell? ⟨w3.heap.size, 2, none⟩ = some (.int .i64 z1) ∧ w4.cell? ⟨w3.heap.size, 3, none⟩ = some (.int .i64 z2) ∧ w4.cell? ⟨w3.heap.size, 4, none⟩ = some (.int .i64 z3) ∧ w4.cell? ⟨w3.heap.size, 5, none⟩ = some (.int .i64 z4) ∧ w4.cell? ⟨w3.heap.size, 6, none⟩ = some (.int .i64 z5) := by
        have hb := h4.out.blk
        exact ⟨by rw [hb.cell 0]; rfl, by rw [hb.cell 1]; rfl, by rw [hb.cell 2]; rfl, by rw [hb.cell 3]; rfl, by rw [hb.cell 4]; rfl, by rw [hb.cell 5]; rfl, by rw [hb.cell 6]; rfl⟩
      have hq4 := hdr (h4.out.newBlk 44 #[.bool false, .int .i64 0, .int .i64 0, .int .i64 0, .int .i64 0, .int .i64 0, .int .i64 0, .int .i64 0, .int .i64 0])
      have hA4 := HA _ (HS _ _ hq4).out
      have hA5 := HA w4.drew (HS w4.drew _ (hdr h4.out)).out
      have hq5 := (hdr h4.out).newBlk 44 #[.bool false, .int .i64 0, .int .i64 0, .int .i64 0, .int .i64 0, .int .i64 0, .int .i64 0, .int .i64 0, .int .i64 0]
      clear hw4
      go_region_held3 (fun w' => w'.cell? ⟨w3.heap.size, 0, none⟩ = some (.bool true) ∧ w'.cell? ⟨w3.heap.size, 1, none⟩ = some (.int .i64 z0) ∧ w'.cell? ⟨w3.heap.size, 2, none⟩ = some (.int .i64 z1) ∧ w'.cell? ⟨w3.heap.size, 3, none⟩ = some (.int .i64 z2) ∧ w'.cell? ⟨w3.heap.size, 4, none⟩ = some (.int .i64 z3) ∧ w'.cell? ⟨w3.heap.size, 5, none⟩ = some (.int .i64 z4) ∧ w'.cell? ⟨w3.heap.size, 6, none⟩ = some (.int .i64 z5)) (go_keep)
        ((first | (go_at_call 35; with_reducible refine (hA4.out).mono ?_; rintro e w5 ⟨rfl, rfl⟩) | (go_at_call 35; with_reducible refine (hA5.out).mono ?_; rintro e w5 ⟨rfl, rfl⟩)))
      all_goals go_upto_region 6 with fail
      all_goals
        (try rw [s26])
        have h5 := Lib.hid (hdr (h4.out.newBlk 44 #[.bool true, .int .i64 z0, .int .i64 z1, .int .i64 z2, .int .i64 z3, .int .i64 z4, .int .i64 z5, .int .i64 z6, .int .i64 z7]))
        obtain ⟨w5, hw5⟩ : ∃ w5, w5 = (w4.alloc (.cells #[.bool true, .int .i64 z0, .int .i64 z1, .int .i64 z2, .int .i64 z3, .int .i64 z4, .int .i64 z5, .int .i64 z6, .int .i64 z7] 44)).drew := ⟨_, rfl⟩
        rw [← hw5] at h5 ⊢
        have rb5 := (HS w5 _ h5.out).out
        have r5 := h5.out.blk
        clear hw5 d0 d1 d2 d3 d4 d5 d6 hA4 hA5 hq4 hq5
        go_upto_region 7 with (first
          | (refine wpList_load_row rfl 44 _ rfl w4.heap.size rfl 44 #[.bool true, .int .i64 z0, .int .i64 z1, .int .i64 z2, .int .i64 z3, .int .i64 z4, .int .i64 z5, .int .i64 z6, .int .i64 z7] (0, 0) _ r5 Try.underlying44 rfl hi9 ?_)
          | (go_at_call 19; refine ((HP w5).out).mono ?_; rintro e w6 ⟨v6, rfl, ho6, hb6⟩; have h6 := Lib.hid (h5.out.newOb ho6 hb6); obtain ⟨A6, c6, rfl, -, -, hr6, -⟩ := ho6.form; clear ho6 hb6))
        have rb6 := (HS w6 _ h6.out).out
        have r6 := h6.out.bring3.blk
        have r7 := h6.out.bring4.blk
        have H9 := Lib.hid (h6.out.bring4.setRow #[.bool false, .int .i64 0, .int .i64 0, .int .i64 0, .int .i64 0, .int .i64 0, .int .i64 0, .int .i64 0, .int .i64 0])
        clear rb5 r5 rb6 hr6
        go_wp2_with (first
          | (refine wpList_load_row rfl 44 _ rfl (w.heap.size + 1) rfl 44 #[.bool false, .int .i64 0, .int .i64 0, .int .i64 0, .int .i64 0, .int .i64 0, .int .i64 0, .int .i64 0, .int .i64 0] (0, 0) _ r6 Try.underlying44 rfl hi9 ?_)
          | (refine wpList_store_row rfl 44 _ _ rfl w.heap.size #[.bool false, .int .i64 0, .int .i64 0, .int .i64 0, .int .i64 0, .int .i64 0, .int .i64 0, .int .i64 0, .int .i64 0] rfl rfl 44 #[.bool false, .int .i64 0, .int .i64 0, .int .i64 0, .int .i64 0, .int .i64 0, .int .i64 0, .int .i64 0, .int .i64 0] r7 hi9 rfl oz ?_))
        refine bodyPost_ret (results_row_tmp rfl _ _ w.heap.size 44 #[.bool false, .int .i64 0, .int .i64 0, .int .i64 0, .int .i64 0, .int .i64 0, .int .i64 0, .int .i64 0, .int .i64 0] _ rfl H9.out.blk Try.underlying44 rfl hi9) rfl ?_
        exact ⟨rfl, H9.out.drop.drop.drop.drop.drop⟩
    · simp only [if_true] at hP
      simp only [if_true]
      have HP := fun W => Lib.hid (hP W)
      clear hP
      go_enter Try.func21, Try.ntmps21
      go_upto_region 2 with fail
      rw [← Hwo.out]
      go_upto_region 5 with (go_at_call 42; refine (HL.out).mono ?_; rintro e w3 ⟨rfl, hb3⟩; have h4 := Lib.hid ((H0.out.below hb3).newBlk 42 #[.bool true, .int .i64 z0, .int .i64 z1, .int .i64 z2, .int .i64 z3, .int .i64 z4, .int .i64 z5]); clear hb3)
      obtain ⟨w4, hw4⟩ : ∃ w4, w4 = w3.alloc (.cells #[.bool true, .int .i64 z0, .int .i64 z1, .int .i64 z2, .int .i64 z3, .int .i64 z4, .int .i64 z5] 42) := ⟨_, rfl⟩
      rw [← hw4] at h4 ⊢
      obtain ⟨d0, d1, d2, d3, d4, d5, d6⟩ : w4.cell? ⟨w3.heap.size, 0, none⟩ = some (.bool true) ∧ w4.cell? ⟨w3.heap.size, 1, none⟩ = some (.int .i64 z0) ∧ w4.cell? ⟨w3.heap.size, 2, none⟩ = some (.int .i64 z1) ∧ w4.cell? ⟨w3.heap.size, 3, none⟩ = some (.int .i64 z2) ∧ w4.cell? ⟨w3.heap.size, 4, none⟩ = some (.int .i64 z3) ∧ w4.cell? ⟨w3.heap.size, 5, none⟩ = some (.int .i64 z4) ∧ w4.cell? ⟨w3.heap.size, 6, none⟩ = some (.int .i64 z5) := by
        have hb := h4.out.blk
        exact ⟨by rw [hb.cell 0]; rfl, by rw [hb.cell 1]; rfl, by rw [hb.cell 2]; rfl, by rw [hb.cell 3]; rfl, by rw [hb.cell 4]; rfl, by rw [hb.cell 5]; rfl, by rw [hb.cell 6]; rfl⟩
      have hq4 := hdr (h4.out.newBlk 44 #[.bool false, .int .i64 0, .int .i64 0, .int .i64 0, .int .i64 0, .int .i64 0, .int .i64 0, .int .i64 0, .int .i64 0])
      have hA4 := HA _ (HS _ _ hq4).out
      have hA5 := HA w4.drew (HS w4.drew _ (hdr h4.out)).out
      have hq5 := (hdr h4.out).newBlk 44 #[.bool false, .int .i64 0, .int .i64 0, .int .i64 0, .int .i64 0, .int .i64 0, .int .i64 0, .int .i64 0, .int .i64 0]
      clear hw4
      go_region_held3 (fun w' => w'.cell? ⟨w3.heap.size, 0, none⟩ = some (.bool true) ∧ w'.cell? ⟨w3.heap.size, 1, none⟩ = some (.int .i64 z0) ∧ w'.cell? ⟨w3.heap.size, 2, none⟩ = some (.int .i64 z1) ∧ w'.cell? ⟨w3.heap.size, 3, none⟩ = some (.int .i64 z2) ∧ w'.cell? ⟨w3.heap.size, 4, none⟩ = some (.int .i64 z3) ∧ w'.cell? ⟨w3.heap.size, 5, none⟩ = some (.int .i64 z4) ∧ w'.cell? ⟨w3.heap.size, 6, none⟩ = some (.int .i64 z5)) (go_keep)
        ((first | (go_at_call 35; with_reducible refine (hA4.out).mono ?_; rintro e w5 ⟨rfl, rfl⟩) | (go_at_call 35; with_reducible refine (hA5.out).mono ?_; rintro e w5 ⟨rfl, rfl⟩)))
      all_goals go_upto_region 6 with fail
      all_goals
        (try rw [s26])
        have h5 := Lib.hid (hdr (h4.out.newBlk 44 #[.bool true, .int .i64 z0, .int .i64 z1, .int .i64 z2, .int .i64 z3, .int .i64 z4, .int .i64 z5, .int .i64 z6, .int .i64 z7]))
        obtain ⟨w5, hw5⟩ : ∃ w5, w5 = (w4.alloc (.cells #[.bool true, .int .i64 z0, .int .i64 z1, .int .i64 z2, .int .i64 z3, .int .i64 z4, .int .i64 z5, .int .i64 z6, .int .i64 z7] 44)).drew := ⟨_, rfl⟩
        rw [← hw5] at h5 ⊢
        have rb5 := (HS w5 _ h5.out).out
        have r5 := h5.out.blk
        clear hw5 d0 d1 d2 d3 d4 d5 d6 hA4 hA5 hq4 hq5
        go_upto_region 7 with (first
          | (refine wpList_load_row rfl 44 _ rfl w4.heap.size rfl 44 #[.bool true, .int .i64 z0, .int .i64 z1, .int .i64 z2, .int .i64 z3, .int .i64 z4, .int .i64 z5, .int .i64 z6, .int .i64 z7] (0, 0) _ r5 Try.underlying44 rfl hi9 ?_)
          | (go_at_call 19; refine ((HP w5).out).mono ?_; rintro e w6 ⟨v6, rfl, ho6, hb6⟩; have h6 := Lib.hid (h5.out.newOb ho6 hb6); obtain ⟨A6, c6, rfl, -, -, hr6, -⟩ := ho6.form; clear ho6 hb6))
        have rb6 := (HS w6 _ h6.out).out
        have q1 := run_bytes_str (P := Try.prog) w6 26 9 5 c6 Try.underlying26 Try.underlying5 Try.underlying9 hr6
        have q2 := run_bytes_str (P := Try.prog) w6 26 9 5 cap Try.underlying26 Try.underlying5 Try.underlying9 rb6
        have r6 := h6.out.swap.blk
        have r7 := h6.out.bring4.blk
        have H9 := Lib.hid (h6.out.bring4.setRow #[.bool true, .int .i64 z0, .int .i64 z1, .int .i64 z2, .int .i64 z3, .int .i64 z4, .int .i64 z5, .int .i64 z6, .int .i64 z7])
        clear rb5 r5 rb6 hr6
        go_wp2_with (first
          | (refine wpList_load_row rfl 44 _ rfl w4.heap.size rfl 44 #[.bool true, .int .i64 z0, .int .i64 z1, .int .i64 z2, .int .i64 z3, .int .i64 z4, .int .i64 z5, .int .i64 z6, .int .i64 z7] (0, 0) _ r6 Try.underlying44 rfl hi9 ?_)
          | (refine wpList_store_row rfl 44 _ _ rfl w.heap.size #[.bool true, .int .i64 z0, .int .i64 z1, .int .i64 z2, .int .i64 z3, .int .i64 z4, .int .i64 z5, .int .i64 z6, .int .i64 z7] rfl rfl 44 #[.bool false, .int .i64 0, .int .i64 0, .int .i64 0, .int .i64 0, .int .i64 0, .int .i64 0, .int .i64 0, .int .i64 0] r7 hi9 rfl (by rw [← Array.all_toList]; rfl) ?_))
        refine bodyPost_ret (results_row_tmp rfl _ _ w.heap.size 44 #[.bool true, .int .i64 z0, .int .i64 z1, .int .i64 z2, .int .i64 z3, .int .i64 z4, .int .i64 z5, .int .i64 z6, .int .i64 z7] _ rfl H9.out.blk Try.underlying44 rfl hi9) rfl ?_
        exact ⟨rfl, H9.out.drop.drop.drop.drop.drop⟩
  · rw [if_neg hl]
    have hl' : ((bs.length : Int) != 30) = true := by rw [bne_iff_ne]; omega
    have hb1 := h0.blk
    have hb2 := h0.swap.blk
    have H9 := Lib.hid (h0.swap.setRow #[.bool false, .int .i64 0, .int .i64 0, .int .i64 0, .int .i64 0, .int .i64 0, .int .i64 0, .int .i64 0, .int .i64 0])
    clear hl hwo e0 h0
    go_enter Try.func21, Try.ntmps21
    go_upto_region 2 with fail
    rw [← Hwo.out]
    go_wp2_with (first
      | (refine wpList_load_row rfl 44 _ rfl (w.heap.size + 1) rfl 44 #[.bool false, .int .i64 0, .int .i64 0, .int .i64 0, .int .i64 0, .int .i64 0, .int .i64 0, .int .i64 0, .int .i64 0] (0, 0) _ hb1 Try.underlying44 rfl hi9 ?_)
      | (refine wpList_store_row rfl 44 _ _ rfl w.heap.size #[.bool false, .int .i64 0, .int .i64 0, .int .i64 0, .int .i64 0, .int .i64 0, .int .i64 0, .int .i64 0, .int .i64 0] rfl rfl 44 #[.bool false, .int .i64 0, .int .i64 0, .int .i64 0, .int .i64 0, .int .i64 0, .int .i64 0, .int .i64 0, .int .i64 0] hb2 hi9 rfl oz ?_))
    refine bodyPost_ret (results_row_tmp rfl _ _ w.heap.size 44 #[.bool false, .int .i64 0, .int .i64 0, .int .i64 0, .int .i64 0, .int .i64 0, .int .i64 0, .int .i64 0, .int .i64 0] _ rfl H9.out.blk Try.underlying44 rfl hi9) rfl ?_
    exact ⟨rfl, H9.out.drop.drop⟩
end Go.Proofs.Ytpoaokkmmoeekaa
