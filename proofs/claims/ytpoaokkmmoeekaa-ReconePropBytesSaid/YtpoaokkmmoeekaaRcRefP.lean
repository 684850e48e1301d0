/- The document's GetProp. -/
import Derived.Test.YtpoaokkmmoeekaaRcPureGetPropB
import Derived.Test.YtpoaokkmmoeekaaRcRefG
import Derived.Test.YtpoaokkmmoeekaaRcRef4
import Derived.Test.YtpoaokkmmoeekaaSameS
namespace Go.Proofs.Ytpoaokkmmoeekaa
open Go.RowKit
set_option linter.unusedVariables false

def refGPE (bs : List Nat) : Int := if bs.length = 19 then (if (refPropOk (propC bs) && zeroP bs) = true then 0 else 41) else 4
theorem z6_one : (#[.int .i64 0, .int .i64 0, .int .i64 0, .int .i64 0, .int .i64 0, .int .i64 0] : Array Value).all (·.oneCell') = true := by rw [← Array.all_toList]; rfl
set_option maxRecDepth 100000 in
set_option maxHeartbeats 8000000 in
theorem refGetProp_any (A : Option Addr) (cap B : Nat) (bs : List Nat) (w : World) (h : RB w B A bs) (hB : B ≤ w.heap.size) (hc : bs.length ≤ cap) (hm : cap ≤ maxLen) :
    Calls Try.prog 25 #[.slice A bs.length cap] w (PropReadB (propC bs) (refGPE bs) w) := by
  have h0 := ((St.start Zf w).newBlk 53 #[.int .i64 0, .int .i64 0, .int .i64 0, .int .i64 0, .int .i64 0, .int .i64 0]).newBlk 53 #[.int .i64 0, .int .i64 0, .int .i64 0, .int .i64 0, .int .i64 0, .int .i64 0]
  have e0 : (w.alloc (.cells #[.int .i64 0, .int .i64 0, .int .i64 0, .int .i64 0, .int .i64 0, .int .i64 0] 53)).heap.size = w.heap.size + 1 := by simp
  rw [e0] at h0
  obtain ⟨wo, hwo⟩ : ∃ wo, wo = (w.alloc (.cells #[.int .i64 0, .int .i64 0, .int .i64 0, .int .i64 0, .int .i64 0, .int .i64 0] 53)).alloc (.cells #[.int .i64 0, .int .i64 0, .int .i64 0, .int .i64 0, .int .i64 0, .int .i64 0] 53) := ⟨_, rfl⟩
  rw [← hwo] at h0
  have hi6 : (Try.prog.info? 53).map (·.size) = some 6 := by kernel_rfl
  have oz := z6_one
  have Hwo := Lib.hid hwo
  have H0 := Lib.hid h0
  unfold PropReadB refGPE
  by_cases hl : bs.length = 19
  · rw [if_pos hl]
    have hrr := h0.rb h hB
    have hby := h.1
    have hback := propB_back bs hby hl
    have hI := propCI bs hby hl
    have K0 : Hid (Calls Try.prog 35 #[.slice A bs.length cap, .int .i64 0, .int .i64 2] wo fun e w' => e = .returned (.int .i64 ((atN bs 0 2 : Nat) : Int)) ∧ wo = w') := Lib.hid (at_any A cap B bs 0 2 wo hrr hc hm (by omega) (by omega))
    have K2 : Hid (Calls Try.prog 35 #[.slice A bs.length cap, .int .i64 2, .int .i64 1] wo fun e w' => e = .returned (.int .i64 ((atN bs 2 1 : Nat) : Int)) ∧ wo = w') := Lib.hid (at_any A cap B bs 2 1 wo hrr hc hm (by omega) (by omega))
    have K11 : Hid (Calls Try.prog 35 #[.slice A bs.length cap, .int .i64 11, .int .i64 4] wo fun e w' => e = .returned (.int .i64 ((atN bs 11 4 : Nat) : Int)) ∧ wo = w') := Lib.hid (at_any A cap B bs 11 4 wo hrr hc hm (by omega) (by omega))
    have K15 : Hid (Calls Try.prog 35 #[.slice A bs.length cap, .int .i64 15, .int .i64 4] wo fun e w' => e = .returned (.int .i64 ((atN bs 15 4 : Nat) : Int)) ∧ wo = w') := Lib.hid (at_any A cap B bs 15 4 wo hrr hc hm (by omega) (by omega))
    have l11 := atN_lt bs hby 11 4 (by omega) (by omega)
    have l15 := atN_lt bs hby 15 4 (by omega) (by omega)
    have l7 := atN_lt bs hby 7 4 (by omega) (by omega)
    have hC : propC bs = if ((atN bs 2 1 : Nat) : Int) < 4 then ⟨(atN bs 0 2 : Nat), (atN bs 2 1 : Nat), wrap64 (num8 bs : Nat), -1, (atN bs 11 4 : Nat) - 1, (atN bs 15 4 : Nat) - 1⟩
      else ⟨(atN bs 0 2 : Nat), (atN bs 2 1 : Nat), 0, (atN bs 7 4 : Nat) - 1, (atN bs 11 4 : Nat) - 1, (atN bs 15 4 : Nat) - 1⟩ := rfl
    have hZ : zeroP bs = (decide (((atN bs 2 1 : Nat) : Int) < 4) || decide (atN bs 3 4 = 0)) := rfl
    have hP : ∀ W, Calls Try.prog 23 #[.agg #[.int .i64 (propC bs).ky, .int .i64 (propC bs).kd, .int .i64 (propC bs).nu, .int .i64 (propC bs).bl, .int .i64 (propC bs).pv, .int .i64 (propC bs).nx]] W (RefPut (refPropOk (propC bs)) (refPropB (propC bs)) W) := fun W => refPutProp_any (propC bs) W
    have K7 : ∀ W, RB W B A bs → Hid (Calls Try.prog 35 #[.slice A bs.length cap, .int .i64 7, .int .i64 4] W fun e w' => e = .returned (.int .i64 ((atN bs 7 4 : Nat) : Int)) ∧ W = w') := fun W hW => Lib.hid (at_any A cap B bs 7 4 W hW hc hm (by omega) (by omega))
    have hm' : cap ≤ 9223372036854775807 := by have := hm; unfold maxLen at this; omega
    have HV : ∀ W b off, A = some ⟨b, off, none⟩ → RB W B A bs → Hid (Calls Try.prog 47 #[.slice (some ⟨b, off + 3, none⟩) 8 (cap - 3)] W fun e w' => e = .returned (.int .u64 ((num8 bs : Nat) : Int)) ∧ W = w') := fun W b off hA hW => Lib.hid (by
      have hcut := hW.cut hA 3 11 (by omega) (by omega)
      have hlen : ((bs.take 11).drop 3).length = 8 := by rw [List.length_drop, List.length_take]; omega
      have := Val_any (some ⟨b, off + 3, none⟩) (cap - 3) B ((bs.take 11).drop 3) W hcut (by omega)
      rw [hlen] at this
      exact this)
    unfold RefPut at hP
    obtain ⟨b, off, hA, _, _⟩ := h.all (by omega)
    have hA' := hA
    have r11 := sub_one l11
    have r15 := sub_one l15
    have r7 := sub_one l7
    have g1 : 3 < cap := by omega
    have g2 : 11 ≤ cap := by omega
    have hl' : ((bs.length : Int) != 19) = false := by simp [hl]
    have hn1 : (bs.length : Int) = 19 := by omega
    have HS := fun (W : World) (l : List Ass) (hs : St Zf l w W) => Lib.hid (hs.rb h hB)
    obtain ⟨ok, hok⟩ : ∃ ok, ok = refPropOk (propC bs) := ⟨_, rfl⟩
    obtain ⟨zp, hzp⟩ : ∃ zp, zp = zeroP bs := ⟨_, rfl⟩
    obtain ⟨cb, hcb⟩ : ∃ cb, cb = refPropB (propC bs) := ⟨_, rfl⟩
    have hcbI : refPropOk (propC bs) = true → IsBytes cb := fun hh => by
      rw [hcb, allP_eq _ hI hh]
      unfold allP midP tailP
      have e := fun (w' : Int) (n : Nat) => (show IsBytes (putNum w' n) by
        unfold putNum
        split
        · exact enc_bytes _ _
        · exact IsBytes.nil)
      split
      · exact (e _ _).append ((e _ _).append ((e _ _).append ((e _ _).append ((e _ _).append ((e _ _).append IsBytes.nil)))))
      · exact (e _ _).append ((e _ _).append ((e _ _).append ((e _ _).append ((e _ _).append IsBytes.nil))))
    rw [← hok] at hback hcbI hP ⊢
    rw [← hzp] at hback hZ ⊢
    rw [← hcb] at hback hP
    rw [hC] at hP ⊢
    obtain ⟨n0, hn0⟩ : ∃ n, n = atN bs 0 2 := ⟨_, rfl⟩
    obtain ⟨n1, hn1'⟩ : ∃ n, n = atN bs 2 1 := ⟨_, rfl⟩
    obtain ⟨n7, hn7⟩ : ∃ n, n = atN bs 7 4 := ⟨_, rfl⟩
    obtain ⟨n11, hn11⟩ : ∃ n, n = atN bs 11 4 := ⟨_, rfl⟩
    obtain ⟨n15, hn15⟩ : ∃ n, n = atN bs 15 4 := ⟨_, rfl⟩
    obtain ⟨n8, hn8⟩ : ∃ n, n = num8 bs := ⟨_, rfl⟩
    rw [← hn0] at K0 hP ⊢
    rw [← hn1'] at K2 hP hZ ⊢
    rw [← hn7] at K7 r7 hP ⊢
    rw [← hn11] at K11 r11 hP ⊢
    rw [← hn15] at K15 r15 hP ⊢
    rw [← hn8] at HV hP ⊢
    obtain ⟨z11, hz11⟩ : ∃ z, z = (n11 : Int) - 1 := ⟨_, rfl⟩
    obtain ⟨z15, hz15⟩ : ∃ z, z = (n15 : Int) - 1 := ⟨_, rfl⟩
    obtain ⟨z7, hz7⟩ : ∃ z, z = (n7 : Int) - 1 := ⟨_, rfl⟩
    have s11 : wrap64 ((n11 : Int) - 1) = z11 := r11.trans hz11.symm
    have s15 : wrap64 ((n15 : Int) - 1) = z15 := r15.trans hz15.symm
    have s7 : wrap64 ((n7 : Int) - 1) = z7 := r7.trans hz7.symm
    rw [← hz11, ← hz15, ← hz7] at hP ⊢
    obtain ⟨v8, hv8⟩ : ∃ v, wrap64 (n8 : Int) = v := ⟨_, rfl⟩
    rw [hv8] at hP ⊢
    have h4 : St Zf [BlkA (w.heap.size + 2) 53 #[.int .i64 (n0 : Int), .int .i64 (n1 : Int), .int .i64 0, .int .i64 (-1), .int .i64 z11, .int .i64 z15], BlkA (w.heap.size + 1) 53 #[.int .i64 0, .int .i64 0, .int .i64 0, .int .i64 0, .int .i64 0, .int .i64 0], BlkA w.heap.size 53 #[.int .i64 0, .int .i64 0, .int .i64 0, .int .i64 0, .int .i64 0, .int .i64 0]] w (wo.alloc (.cells #[.int .i64 (n0 : Int), .int .i64 (n1 : Int), .int .i64 0, .int .i64 (-1), .int .i64 z11, .int .i64 z15] 53)) := by
      have a := H0.out.newBlk 53 #[.int .i64 (n0 : Int), .int .i64 (n1 : Int), .int .i64 0, .int .i64 (-1), .int .i64 z11, .int .i64 z15]
      have e : wo.heap.size = w.heap.size + 2 := by rw [Hwo.out]; simp
      rw [e] at a
      exact a
    have heo : wo.heap.size = w.heap.size + 2 := by rw [Hwo.out]; simp
    have HLEN := Lib.hid hl
    have H4 := Lib.hid h4
    clear hn0 hn1' hn7 hn11 hn15 hn8 hz11 hz15 hz7 hok hzp hC hcb h0 hwo e0 hrr l11 l15 l7 r11 r15 r7 hl hI h4
    subst hA
    by_cases hk : (n1 : Int) < 4
    · rw [decide_eq_true hk, Bool.true_or] at hZ
      simp only [if_pos hk] at hP ⊢
      subst hZ
      cases ok
      · simp only [Bool.false_eq_true, if_false, Bool.false_and] at hP ⊢
        have HP := fun W => Lib.hid (hP W)
        clear hP
        go_enter Try.func25, Try.ntmps25
        go_upto_region 2 with fail
        rw [← Hwo.out]
        go_upto_region 5 with (first | (go_at_call 35; with_reducible refine (K0.out).mono ?_; rintro e w1 ⟨rfl, rfl⟩) | (go_at_call 35; with_reducible refine (K2.out).mono ?_; rintro e w1 ⟨rfl, rfl⟩) | (go_at_call 35; with_reducible refine (K11.out).mono ?_; rintro e w1 ⟨rfl, rfl⟩) | (go_at_call 35; with_reducible refine (K15.out).mono ?_; rintro e w1 ⟨rfl, rfl⟩))
        (try simp only [heo])
        obtain ⟨w4, hw4⟩ : ∃ w4, w4 = wo.alloc (.cells #[.int .i64 (n0 : Int), .int .i64 (n1 : Int), .int .i64 0, .int .i64 (-1), .int .i64 z11, .int .i64 z15] 53) := ⟨_, rfl⟩
        rw [← hw4] at H4 ⊢
        clear hw4
        have rb4 := (HS w4 _ H4.out).out
        obtain ⟨d0, d1, d2, d3, d4, d5⟩ := cellsprop H4.out
        obtain ⟨f0, f1, f2, f3, f4, f5⟩ := frozprop H4.out
        have HV4 := HV w4 b off rfl rb4
        go_upto_region 8 with (go_at_call 47; refine (HV4.out).mono ?_; rintro e w1 ⟨rfl, rfl⟩)
        have h5 : Hid (St Zf [BlkA (w.heap.size + 2) 53 #[.int .i64 (n0 : Int), .int .i64 (n1 : Int), .int .i64 v8, .int .i64 (-1), .int .i64 z11, .int .i64 z15], BlkA (w.heap.size + 1) 53 #[.int .i64 0, .int .i64 0, .int .i64 0, .int .i64 0, .int .i64 0, .int .i64 0], BlkA w.heap.size 53 #[.int .i64 0, .int .i64 0, .int .i64 0, .int .i64 0, .int .i64 0, .int .i64 0]] w (w4.setCell ⟨w.heap.size + 2, 2, none⟩ (.int .i64 v8))) := Lib.hid (H4.out.setBlk 2 _)
        obtain ⟨w5, hw5⟩ : ∃ w5, w5 = w4.setCell ⟨w.heap.size + 2, 2, none⟩ (.int .i64 v8) := ⟨_, rfl⟩
        rw [← hw5] at h5 ⊢
        clear hw5 d0 d1 d2 d3 d4 d5 f0 f1 f2 f3 f4 f5 rb4
        have r5 := h5.out.blk
        go_upto_region 9 with (first
          | (refine wpList_load_row rfl 53 _ rfl (w.heap.size + 2) rfl 53 #[.int .i64 (n0 : Int), .int .i64 (n1 : Int), .int .i64 v8, .int .i64 (-1), .int .i64 z11, .int .i64 z15] (0, 0) _ r5 Try.underlying53 rfl hi6 ?_)
          | (go_at_call 23; refine ((HP w5).out).mono ?_; rintro e w6 ⟨v6, rfl, ho6, hb6⟩; have h6 := Lib.hid (h5.out.newOb ho6 hb6); obtain ⟨A6, c6, rfl, -, -, hr6, -⟩ := ho6.form; clear ho6 hb6))
        have rb6 := (HS w6 _ h6.out).out
        have r6 := h6.out.swap.blk
        have r6z := h6.out.bring2.blk
        have r7 := h6.out.bring3.blk
        have H9 := Lib.hid (h6.out.bring3.setRow #[.int .i64 0, .int .i64 0, .int .i64 0, .int .i64 0, .int .i64 0, .int .i64 0])
        clear r5 rb6 hr6
        go_wp2_with (first
          | (refine wpList_load_row rfl 53 _ rfl (w.heap.size + 1) rfl 53 #[.int .i64 0, .int .i64 0, .int .i64 0, .int .i64 0, .int .i64 0, .int .i64 0] (0, 0) _ r6z Try.underlying53 rfl hi6 ?_)
          | (refine wpList_store_row rfl 53 _ _ rfl w.heap.size #[.int .i64 0, .int .i64 0, .int .i64 0, .int .i64 0, .int .i64 0, .int .i64 0] rfl rfl 53 #[.int .i64 0, .int .i64 0, .int .i64 0, .int .i64 0, .int .i64 0, .int .i64 0] r7 hi6 rfl (by rw [← Array.all_toList]; rfl) ?_))
        refine bodyPost_ret (results_row_tmp rfl _ _ w.heap.size 53 #[.int .i64 0, .int .i64 0, .int .i64 0, .int .i64 0, .int .i64 0, .int .i64 0] _ rfl H9.out.blk Try.underlying53 rfl hi6) rfl ?_
        exact ⟨rfl, H9.out.drop.drop.drop.drop⟩
      · simp only [if_true, Bool.and_self] at hP ⊢
        have hcb := (hback rfl).2 rfl
        subst hcb
        have HP := fun W => Lib.hid (hP W)
        clear hP
        go_enter Try.func25, Try.ntmps25
        go_upto_region 2 with fail
        rw [← Hwo.out]
        go_upto_region 5 with (first | (go_at_call 35; with_reducible refine (K0.out).mono ?_; rintro e w1 ⟨rfl, rfl⟩) | (go_at_call 35; with_reducible refine (K2.out).mono ?_; rintro e w1 ⟨rfl, rfl⟩) | (go_at_call 35; with_reducible refine (K11.out).mono ?_; rintro e w1 ⟨rfl, rfl⟩) | (go_at_call 35; with_reducible refine (K15.out).mono ?_; rintro e w1 ⟨rfl, rfl⟩))
        (try simp only [heo])
        obtain ⟨w4, hw4⟩ : ∃ w4, w4 = wo.alloc (.cells #[.int .i64 (n0 : Int), .int .i64 (n1 : Int), .int .i64 0, .int .i64 (-1), .int .i64 z11, .int .i64 z15] 53) := ⟨_, rfl⟩
        rw [← hw4] at H4 ⊢
        clear hw4
        have rb4 := (HS w4 _ H4.out).out
        obtain ⟨d0, d1, d2, d3, d4, d5⟩ := cellsprop H4.out
        obtain ⟨f0, f1, f2, f3, f4, f5⟩ := frozprop H4.out
        have HV4 := HV w4 b off rfl rb4
        go_upto_region 8 with (go_at_call 47; refine (HV4.out).mono ?_; rintro e w1 ⟨rfl, rfl⟩)
        have h5 : Hid (St Zf [BlkA (w.heap.size + 2) 53 #[.int .i64 (n0 : Int), .int .i64 (n1 : Int), .int .i64 v8, .int .i64 (-1), .int .i64 z11, .int .i64 z15], BlkA (w.heap.size + 1) 53 #[.int .i64 0, .int .i64 0, .int .i64 0, .int .i64 0, .int .i64 0, .int .i64 0], BlkA w.heap.size 53 #[.int .i64 0, .int .i64 0, .int .i64 0, .int .i64 0, .int .i64 0, .int .i64 0]] w (w4.setCell ⟨w.heap.size + 2, 2, none⟩ (.int .i64 v8))) := Lib.hid (H4.out.setBlk 2 _)
        obtain ⟨w5, hw5⟩ : ∃ w5, w5 = w4.setCell ⟨w.heap.size + 2, 2, none⟩ (.int .i64 v8) := ⟨_, rfl⟩
        rw [← hw5] at h5 ⊢
        clear hw5 d0 d1 d2 d3 d4 d5 f0 f1 f2 f3 f4 f5 rb4
        have r5 := h5.out.blk
        go_upto_region 9 with (first
          | (refine wpList_load_row rfl 53 _ rfl (w.heap.size + 2) rfl 53 #[.int .i64 (n0 : Int), .int .i64 (n1 : Int), .int .i64 v8, .int .i64 (-1), .int .i64 z11, .int .i64 z15] (0, 0) _ r5 Try.underlying53 rfl hi6 ?_)
          | (go_at_call 23; refine ((HP w5).out).mono ?_; rintro e w6 ⟨v6, rfl, ho6, hb6⟩; have h6 := Lib.hid (h5.out.newOb ho6 hb6); obtain ⟨A6, c6, rfl, -, -, hr6, -⟩ := ho6.form; clear ho6 hb6))
        have rb6 := (HS w6 _ h6.out).out
        have r6 := h6.out.swap.blk
        have r6z := h6.out.bring2.blk
        have r7 := h6.out.bring3.blk
        have q1 := run_bytes_str (P := Try.prog) w6 26 9 5 c6 Try.underlying26 Try.underlying5 Try.underlying9 hr6
        have q2 := run_bytes_str (P := Try.prog) w6 26 9 5 cap Try.underlying26 Try.underlying5 Try.underlying9 rb6
        have H9 := Lib.hid (h6.out.bring3.setRow #[.int .i64 (n0 : Int), .int .i64 (n1 : Int), .int .i64 v8, .int .i64 (-1), .int .i64 z11, .int .i64 z15])
        clear r5 rb6 hr6
        go_wp2_with (first
          | (refine wpList_load_row rfl 53 _ rfl (w.heap.size + 2) rfl 53 #[.int .i64 (n0 : Int), .int .i64 (n1 : Int), .int .i64 v8, .int .i64 (-1), .int .i64 z11, .int .i64 z15] (0, 0) _ r6 Try.underlying53 rfl hi6 ?_)
          | (refine wpList_store_row rfl 53 _ _ rfl w.heap.size #[.int .i64 (n0 : Int), .int .i64 (n1 : Int), .int .i64 v8, .int .i64 (-1), .int .i64 z11, .int .i64 z15] rfl rfl 53 #[.int .i64 0, .int .i64 0, .int .i64 0, .int .i64 0, .int .i64 0, .int .i64 0] r7 hi6 rfl (by rw [← Array.all_toList]; rfl) ?_))
        refine bodyPost_ret (results_row_tmp rfl _ _ w.heap.size 53 #[.int .i64 (n0 : Int), .int .i64 (n1 : Int), .int .i64 v8, .int .i64 (-1), .int .i64 z11, .int .i64 z15] _ rfl H9.out.blk Try.underlying53 rfl hi6) rfl ?_
        exact ⟨rfl, H9.out.drop.drop.drop.drop⟩
    · simp only [if_neg hk] at hP ⊢
      clear hZ
      cases ok
      · simp only [Bool.false_eq_true, if_false, Bool.false_and] at hP ⊢
        have HP := fun W => Lib.hid (hP W)
        clear hP
        go_enter Try.func25, Try.ntmps25
        go_upto_region 2 with fail
        rw [← Hwo.out]
        go_upto_region 5 with (first | (go_at_call 35; with_reducible refine (K0.out).mono ?_; rintro e w1 ⟨rfl, rfl⟩) | (go_at_call 35; with_reducible refine (K2.out).mono ?_; rintro e w1 ⟨rfl, rfl⟩) | (go_at_call 35; with_reducible refine (K11.out).mono ?_; rintro e w1 ⟨rfl, rfl⟩) | (go_at_call 35; with_reducible refine (K15.out).mono ?_; rintro e w1 ⟨rfl, rfl⟩))
        (try simp only [heo])
        obtain ⟨w4, hw4⟩ : ∃ w4, w4 = wo.alloc (.cells #[.int .i64 (n0 : Int), .int .i64 (n1 : Int), .int .i64 0, .int .i64 (-1), .int .i64 z11, .int .i64 z15] 53) := ⟨_, rfl⟩
        rw [← hw4] at H4 ⊢
        clear hw4
        have rb4 := (HS w4 _ H4.out).out
        obtain ⟨d0, d1, d2, d3, d4, d5⟩ := cellsprop H4.out
        obtain ⟨f0, f1, f2, f3, f4, f5⟩ := frozprop H4.out
        have K74 := K7 w4 rb4
        go_upto_region 8 with (go_at_call 35; refine (K74.out).mono ?_; rintro e w1 ⟨rfl, rfl⟩)
        have h5 : Hid (St Zf [BlkA (w.heap.size + 2) 53 #[.int .i64 (n0 : Int), .int .i64 (n1 : Int), .int .i64 0, .int .i64 z7, .int .i64 z11, .int .i64 z15], BlkA (w.heap.size + 1) 53 #[.int .i64 0, .int .i64 0, .int .i64 0, .int .i64 0, .int .i64 0, .int .i64 0], BlkA w.heap.size 53 #[.int .i64 0, .int .i64 0, .int .i64 0, .int .i64 0, .int .i64 0, .int .i64 0]] w (w4.setCell ⟨w.heap.size + 2, 3, none⟩ (.int .i64 z7))) := Lib.hid (H4.out.setBlk 3 _)
        obtain ⟨w5, hw5⟩ : ∃ w5, w5 = w4.setCell ⟨w.heap.size + 2, 3, none⟩ (.int .i64 z7) := ⟨_, rfl⟩
        rw [← hw5] at h5 ⊢
        clear hw5 d0 d1 d2 d3 d4 d5 f0 f1 f2 f3 f4 f5 rb4
        have r5 := h5.out.blk
        go_upto_region 9 with (first
          | (refine wpList_load_row rfl 53 _ rfl (w.heap.size + 2) rfl 53 #[.int .i64 (n0 : Int), .int .i64 (n1 : Int), .int .i64 0, .int .i64 z7, .int .i64 z11, .int .i64 z15] (0, 0) _ r5 Try.underlying53 rfl hi6 ?_)
          | (go_at_call 23; refine ((HP w5).out).mono ?_; rintro e w6 ⟨v6, rfl, ho6, hb6⟩; have h6 := Lib.hid (h5.out.newOb ho6 hb6); obtain ⟨A6, c6, rfl, -, -, hr6, -⟩ := ho6.form; clear ho6 hb6))
        have rb6 := (HS w6 _ h6.out).out
        have r6 := h6.out.swap.blk
        have r6z := h6.out.bring2.blk
        have r7 := h6.out.bring3.blk
        have H9 := Lib.hid (h6.out.bring3.setRow #[.int .i64 0, .int .i64 0, .int .i64 0, .int .i64 0, .int .i64 0, .int .i64 0])
        clear r5 rb6 hr6
        go_wp2_with (first
          | (refine wpList_load_row rfl 53 _ rfl (w.heap.size + 1) rfl 53 #[.int .i64 0, .int .i64 0, .int .i64 0, .int .i64 0, .int .i64 0, .int .i64 0] (0, 0) _ r6z Try.underlying53 rfl hi6 ?_)
          | (refine wpList_store_row rfl 53 _ _ rfl w.heap.size #[.int .i64 0, .int .i64 0, .int .i64 0, .int .i64 0, .int .i64 0, .int .i64 0] rfl rfl 53 #[.int .i64 0, .int .i64 0, .int .i64 0, .int .i64 0, .int .i64 0, .int .i64 0] r7 hi6 rfl (by rw [← Array.all_toList]; rfl) ?_))
        refine bodyPost_ret (results_row_tmp rfl _ _ w.heap.size 53 #[.int .i64 0, .int .i64 0, .int .i64 0, .int .i64 0, .int .i64 0, .int .i64 0] _ rfl H9.out.blk Try.underlying53 rfl hi6) rfl ?_
        exact ⟨rfl, H9.out.drop.drop.drop.drop⟩
      · cases zp
        · simp only [if_true, Bool.and_false, Bool.false_eq_true, if_false] at hP ⊢
          have HNE : Hid (cb ≠ bs) := Lib.hid fun e => by have := (hback rfl).1 e; cases this
          have HP := fun W => Lib.hid (hP W)
          clear hP
          go_enter Try.func25, Try.ntmps25
          go_upto_region 2 with fail
          rw [← Hwo.out]
          go_upto_region 5 with (first | (go_at_call 35; with_reducible refine (K0.out).mono ?_; rintro e w1 ⟨rfl, rfl⟩) | (go_at_call 35; with_reducible refine (K2.out).mono ?_; rintro e w1 ⟨rfl, rfl⟩) | (go_at_call 35; with_reducible refine (K11.out).mono ?_; rintro e w1 ⟨rfl, rfl⟩) | (go_at_call 35; with_reducible refine (K15.out).mono ?_; rintro e w1 ⟨rfl, rfl⟩))
          (try simp only [heo])
          obtain ⟨w4, hw4⟩ : ∃ w4, w4 = wo.alloc (.cells #[.int .i64 (n0 : Int), .int .i64 (n1 : Int), .int .i64 0, .int .i64 (-1), .int .i64 z11, .int .i64 z15] 53) := ⟨_, rfl⟩
          rw [← hw4] at H4 ⊢
          clear hw4
          have rb4 := (HS w4 _ H4.out).out
          obtain ⟨d0, d1, d2, d3, d4, d5⟩ := cellsprop H4.out
          obtain ⟨f0, f1, f2, f3, f4, f5⟩ := frozprop H4.out
          have K74 := K7 w4 rb4
          go_upto_region 8 with (go_at_call 35; refine (K74.out).mono ?_; rintro e w1 ⟨rfl, rfl⟩)
          have h5 : Hid (St Zf [BlkA (w.heap.size + 2) 53 #[.int .i64 (n0 : Int), .int .i64 (n1 : Int), .int .i64 0, .int .i64 z7, .int .i64 z11, .int .i64 z15], BlkA (w.heap.size + 1) 53 #[.int .i64 0, .int .i64 0, .int .i64 0, .int .i64 0, .int .i64 0, .int .i64 0], BlkA w.heap.size 53 #[.int .i64 0, .int .i64 0, .int .i64 0, .int .i64 0, .int .i64 0, .int .i64 0]] w (w4.setCell ⟨w.heap.size + 2, 3, none⟩ (.int .i64 z7))) := Lib.hid (H4.out.setBlk 3 _)
          obtain ⟨w5, hw5⟩ : ∃ w5, w5 = w4.setCell ⟨w.heap.size + 2, 3, none⟩ (.int .i64 z7) := ⟨_, rfl⟩
          rw [← hw5] at h5 ⊢
          clear hw5 d0 d1 d2 d3 d4 d5 f0 f1 f2 f3 f4 f5 rb4
          have r5 := h5.out.blk
          go_upto_region 9 with (first
            | (refine wpList_load_row rfl 53 _ rfl (w.heap.size + 2) rfl 53 #[.int .i64 (n0 : Int), .int .i64 (n1 : Int), .int .i64 0, .int .i64 z7, .int .i64 z11, .int .i64 z15] (0, 0) _ r5 Try.underlying53 rfl hi6 ?_)
            | (go_at_call 23; refine ((HP w5).out).mono ?_; rintro e w6 ⟨v6, rfl, ho6, hb6⟩; have h6 := Lib.hid (h5.out.newOb ho6 hb6); obtain ⟨A6, c6, rfl, -, -, hr6, -⟩ := ho6.form; clear ho6 hb6))
          have rb6 := (HS w6 _ h6.out).out
          have r6 := h6.out.swap.blk
          have r6z := h6.out.bring2.blk
          have r7 := h6.out.bring3.blk
          have q1 := run_bytes_str (P := Try.prog) w6 26 9 5 c6 Try.underlying26 Try.underlying5 Try.underlying9 hr6
          have q2 := run_bytes_str (P := Try.prog) w6 26 9 5 cap Try.underlying26 Try.underlying5 Try.underlying9 rb6
          have hne : ((strOf cb).toList == (strOf bs).toList) = false := by rw [beq_eq_false_iff_ne]; exact fun e => HNE.out ((strOf_inj hr6.1 rb6.1).1 (str_eq_of_list e))
          have H9 := Lib.hid (h6.out.bring3.setRow #[.int .i64 0, .int .i64 0, .int .i64 0, .int .i64 0, .int .i64 0, .int .i64 0])
          clear r5 rb6 hr6
          go_wp2_with (first
            | (refine wpList_load_row rfl 53 _ rfl (w.heap.size + 1) rfl 53 #[.int .i64 0, .int .i64 0, .int .i64 0, .int .i64 0, .int .i64 0, .int .i64 0] (0, 0) _ r6z Try.underlying53 rfl hi6 ?_)
            | (refine wpList_store_row rfl 53 _ _ rfl w.heap.size #[.int .i64 0, .int .i64 0, .int .i64 0, .int .i64 0, .int .i64 0, .int .i64 0] rfl rfl 53 #[.int .i64 0, .int .i64 0, .int .i64 0, .int .i64 0, .int .i64 0, .int .i64 0] r7 hi6 rfl (by rw [← Array.all_toList]; rfl) ?_))
          refine bodyPost_ret (results_row_tmp rfl _ _ w.heap.size 53 #[.int .i64 0, .int .i64 0, .int .i64 0, .int .i64 0, .int .i64 0, .int .i64 0] _ rfl H9.out.blk Try.underlying53 rfl hi6) rfl ?_
          exact ⟨rfl, H9.out.drop.drop.drop.drop⟩
        · simp only [if_true, Bool.and_self] at hP ⊢
          have hcb := (hback rfl).2 rfl
          subst hcb
          have HP := fun W => Lib.hid (hP W)
          clear hP
          go_enter Try.func25, Try.ntmps25
          go_upto_region 2 with fail
          rw [← Hwo.out]
          go_upto_region 5 with (first | (go_at_call 35; with_reducible refine (K0.out).mono ?_; rintro e w1 ⟨rfl, rfl⟩) | (go_at_call 35; with_reducible refine (K2.out).mono ?_; rintro e w1 ⟨rfl, rfl⟩) | (go_at_call 35; with_reducible refine (K11.out).mono ?_; rintro e w1 ⟨rfl, rfl⟩) | (go_at_call 35; with_reducible refine (K15.out).mono ?_; rintro e w1 ⟨rfl, rfl⟩))
          (try simp only [heo])
          obtain ⟨w4, hw4⟩ : ∃ w4, w4 = wo.alloc (.cells #[.int .i64 (n0 : Int), .int .i64 (n1 : Int), .int .i64 0, .int .i64 (-1), .int .i64 z11, .int .i64 z15] 53) := ⟨_, rfl⟩
          rw [← hw4] at H4 ⊢
          clear hw4
          have rb4 := (HS w4 _ H4.out).out
          obtain ⟨d0, d1, d2, d3, d4, d5⟩ := cellsprop H4.out
          obtain ⟨f0, f1, f2, f3, f4, f5⟩ := frozprop H4.out
          have K74 := K7 w4 rb4
          go_upto_region 8 with (go_at_call 35; refine (K74.out).mono ?_; rintro e w1 ⟨rfl, rfl⟩)
          have h5 : Hid (St Zf [BlkA (w.heap.size + 2) 53 #[.int .i64 (n0 : Int), .int .i64 (n1 : Int), .int .i64 0, .int .i64 z7, .int .i64 z11, .int .i64 z15], BlkA (w.heap.size + 1) 53 #[.int .i64 0, .int .i64 0, .int .i64 0, .int .i64 0, .int .i64 0, .int .i64 0], BlkA w.heap.size 53 #[.int .i64 0, .int .i64 0, .int .i64 0, .int .i64 0, .int .i64 0, .int .i64 0]] w (w4.setCell ⟨w.heap.size + 2, 3, none⟩ (.int .i64 z7))) := Lib.hid (H4.out.setBlk 3 _)
          obtain ⟨w5, hw5⟩ : ∃ w5, w5 = w4.setCell ⟨w.heap.size + 2, 3, none⟩ (.int .i64 z7) := ⟨_, rfl⟩
          rw [← hw5] at h5 ⊢
          clear hw5 d0 d1 d2 d3 d4 d5 f0 f1 f2 f3 f4 f5 rb4
          have r5 := h5.out.blk
          go_upto_region 9 with (first
            | (refine wpList_load_row rfl 53 _ rfl (w.heap.size + 2) rfl 53 #[.int .i64 (n0 : Int), .int .i64 (n1 : Int), .int .i64 0, .int .i64 z7, .int .i64 z11, .int .i64 z15] (0, 0) _ r5 Try.underlying53 rfl hi6 ?_)
            | (go_at_call 23; refine ((HP w5).out).mono ?_; rintro e w6 ⟨v6, rfl, ho6, hb6⟩; have h6 := Lib.hid (h5.out.newOb ho6 hb6); obtain ⟨A6, c6, rfl, -, -, hr6, -⟩ := ho6.form; clear ho6 hb6))
          have rb6 := (HS w6 _ h6.out).out
          have r6 := h6.out.swap.blk
          have r6z := h6.out.bring2.blk
          have r7 := h6.out.bring3.blk
          have q1 := run_bytes_str (P := Try.prog) w6 26 9 5 c6 Try.underlying26 Try.underlying5 Try.underlying9 hr6
          have q2 := run_bytes_str (P := Try.prog) w6 26 9 5 cap Try.underlying26 Try.underlying5 Try.underlying9 rb6
          have H9 := Lib.hid (h6.out.bring3.setRow #[.int .i64 (n0 : Int), .int .i64 (n1 : Int), .int .i64 0, .int .i64 z7, .int .i64 z11, .int .i64 z15])
          clear r5 rb6 hr6
          go_wp2_with (first
            | (refine wpList_load_row rfl 53 _ rfl (w.heap.size + 2) rfl 53 #[.int .i64 (n0 : Int), .int .i64 (n1 : Int), .int .i64 0, .int .i64 z7, .int .i64 z11, .int .i64 z15] (0, 0) _ r6 Try.underlying53 rfl hi6 ?_)
            | (refine wpList_store_row rfl 53 _ _ rfl w.heap.size #[.int .i64 (n0 : Int), .int .i64 (n1 : Int), .int .i64 0, .int .i64 z7, .int .i64 z11, .int .i64 z15] rfl rfl 53 #[.int .i64 0, .int .i64 0, .int .i64 0, .int .i64 0, .int .i64 0, .int .i64 0] r7 hi6 rfl (by rw [← Array.all_toList]; rfl) ?_))
          refine bodyPost_ret (results_row_tmp rfl _ _ w.heap.size 53 #[.int .i64 (n0 : Int), .int .i64 (n1 : Int), .int .i64 0, .int .i64 z7, .int .i64 z11, .int .i64 z15] _ rfl H9.out.blk Try.underlying53 rfl hi6) rfl ?_
          exact ⟨rfl, H9.out.drop.drop.drop.drop⟩
  · rw [if_neg hl]
    have hl' : ((bs.length : Int) != 19) = true := by rw [bne_iff_ne]; omega
    have hb1 := h0.blk
    have hb2 := h0.swap.blk
    have H9 := Lib.hid (h0.swap.setRow #[.int .i64 0, .int .i64 0, .int .i64 0, .int .i64 0, .int .i64 0, .int .i64 0])
    clear hl hwo e0 h0
    go_enter Try.func25, Try.ntmps25
    go_upto_region 2 with fail
    rw [← Hwo.out]
    go_wp2_with (first
      | (refine wpList_load_row rfl 53 _ rfl (w.heap.size + 1) rfl 53 #[.int .i64 0, .int .i64 0, .int .i64 0, .int .i64 0, .int .i64 0, .int .i64 0] (0, 0) _ hb1 Try.underlying53 rfl hi6 ?_)
      | (refine wpList_store_row rfl 53 _ _ rfl w.heap.size #[.int .i64 0, .int .i64 0, .int .i64 0, .int .i64 0, .int .i64 0, .int .i64 0] rfl rfl 53 #[.int .i64 0, .int .i64 0, .int .i64 0, .int .i64 0, .int .i64 0, .int .i64 0] hb2 hi6 rfl oz ?_))
    refine bodyPost_ret (results_row_tmp rfl _ _ w.heap.size 53 #[.int .i64 0, .int .i64 0, .int .i64 0, .int .i64 0, .int .i64 0, .int .i64 0] _ rfl H9.out.blk Try.underlying53 rfl hi6) rfl ?_
    exact ⟨rfl, H9.out.drop.drop⟩
end Go.Proofs.Ytpoaokkmmoeekaa
