/- Same of the program and of the document: field by field. -/
import Derived.Test.YtgpahglmhnnobaaGreatDoorValCheckA
import Derived.Test.YtgpahglmhnnobaaGreatDoorRef
import Derived.Deep.Cut
import Derived.Deep.RegionHeld3
import Derived.Deep.RegionLaw
import Derived.BigRegion
import Derived.IntWalk
namespace Go.Proofs.YtgpahglmhnnobaaGreatDoor
open Go.RowKit
set_option linter.unusedVariables false

end Go.Proofs.YtgpahglmhnnobaaGreatDoor

/- Same of the program and of the document, whole. -/
namespace Go.Proofs.YtgpahglmhnnobaaGreatDoor
open Go.RowKit
set_option linter.unusedVariables false

end Go.Proofs.YtgpahglmhnnobaaGreatDoor

/- Same of the document, whole. -/
namespace Go.Proofs.YtgpahglmhnnobaaGreatDoor
open Go.RowKit
set_option linter.unusedVariables false

set_option maxRecDepth 100000 in
set_option maxHeartbeats 2000000 in
theorem refSame_any (a b : Vv) (x y : Value) (B : Nat) (w : World) (h : VR w B a x) (h' : VR w B b y) (hB : B ≤ w.heap.size) :
    Calls Tryz.prog 26 #[x, y] w (Says (sameV a b) w) := by
  obtain ⟨A, c, A', c', rfl, h1, h2, h3⟩ := h
  obtain ⟨D, d, D', d', rfl, g1, g2, g3⟩ := h'
  have hl1 := h3.ns2
  have hl2 := h3.ts2
  have hm1 := g3.ns2
  have hm2 := g3.ts2
  rw [sameV_eq]
  obtain ⟨k, n, s, ns, ts⟩ := a
  obtain ⟨k', n', s', ns', ts'⟩ := b
  unfold vagg
  simp only at hl1 hl2 hm1 hm2 h1 h2 g1 g2 ⊢
  obtain ⟨E, hE⟩ : ∃ E, E = decide (k = k' ∧ n = n' ∧ s = s' ∧ ns = ns' ∧ ts = ts') := ⟨_, rfl⟩
  rw [← hE]
  obtain ⟨W, hW⟩ : ∃ W, W = (w.alloc (.cells #[.int .i64 k, .int .i64 n, .string s, .slice A ns.length c, .slice A' ts.length c'] 42)).alloc (.cells #[.int .i64 k', .int .i64 n', .string s', .slice D ns'.length d, .slice D' ts'.length d'] 42) := ⟨_, rfl⟩
  have hb : Below w.heap.size w W := by subst hW; exact ((Below.refl _ _).alloc (Nat.le_refl _) _).alloc (by simp) _
  have Bx : Blk W w.heap.size 42 #[.int .i64 k, .int .i64 n, .string s, .slice A ns.length c, .slice A' ts.length c'] := by subst hW; exact (Blk.new _ _ _).alloc _
  have By : Blk W (w.heap.size + 1) 42 #[.int .i64 k', .int .i64 n', .string s', .slice D ns'.length d, .slice D' ts'.length d'] := by
    subst hW
    have := Blk.new (w.alloc (.cells #[.int .i64 k, .int .i64 n, .string s, .slice A ns.length c, .slice A' ts.length c'] 42)) 42 #[.int .i64 k', .int .i64 n', .string s', .slice D ns'.length d, .slice D' ts'.length d']
    simpa using this
  have H1 := Lib.hid h1
  have H2 := Lib.hid h2
  have G1 := Lib.hid g1
  have G2 := Lib.hid g2
  have HW := Lib.hid hW
  clear h1 h2 h3 g1 g2 g3 hW
  by_cases e1 : k = k'
  case neg =>
    have HF : Hid (E = false) := Lib.hid (by rw [hE]; exact decide_eq_false (fun h => e1 (h.1)))
    have f1 : (k != k') = true := by simpa using e1
    clear hE e1 Bx By hl1 hl2 hm1 hm2
    go_enter Tryz.func26, Tryz.ntmps26
    go_wp2
    go_ret
    rw [← HW.out]
    exact ⟨ret_bool HF.out.symm, hb⟩
  have f1 : (k != k') = false := by simpa using e1
  by_cases e2 : n = n'
  case neg =>
    have HF : Hid (E = false) := Lib.hid (by rw [hE]; exact decide_eq_false (fun h => e2 (h.2.1)))
    have f2 : (n != n') = true := by simpa using e2
    clear hE e1 e2 Bx By hl1 hl2 hm1 hm2
    go_enter Tryz.func26, Tryz.ntmps26
    go_wp2
    go_ret
    rw [← HW.out]
    exact ⟨ret_bool HF.out.symm, hb⟩
  have f2 : (n != n') = false := by simpa using e2
  by_cases e3 : s = s'
  case neg =>
    have HF : Hid (E = false) := Lib.hid (by rw [hE]; exact decide_eq_false (fun h => e3 (h.2.2.1)))
    have f3 : (s.toList == s'.toList) = false := by rw [beq_eq_false_iff_ne]; exact fun e => e3 (str_inj e)
    clear hE e1 e2 e3 Bx By hl1 hl2 hm1 hm2
    go_enter Tryz.func26, Tryz.ntmps26
    go_wp2
    go_ret
    rw [← HW.out]
    exact ⟨ret_bool HF.out.symm, hb⟩
  have f3 : (s.toList == s'.toList) = true := by rw [e3]; exact beq_self_eq_true _
  by_cases e4 : ns.length = ns'.length
  case neg =>
    have HF : Hid (E = false) := Lib.hid (by rw [hE]; exact decide_eq_false (fun h => e4 (congrArg List.length h.2.2.2.1)))
    have f4 : ((ns.length : Int) != (ns'.length : Int)) = true := by rw [bne_iff_ne]; omega
    clear hE e1 e2 e3 e4 Bx By hl1 hl2 hm1 hm2
    go_enter Tryz.func26, Tryz.ntmps26
    go_wp2
    go_ret
    rw [← HW.out]
    exact ⟨ret_bool HF.out.symm, hb⟩
  have f4 : ((ns.length : Int) != (ns'.length : Int)) = false := by rw [e4]; simp
  by_cases e5 : ts.length = ts'.length
  case neg =>
    have HF : Hid (E = false) := Lib.hid (by rw [hE]; exact decide_eq_false (fun h => e5 (congrArg List.length h.2.2.2.2)))
    have f5 : ((ts.length : Int) != (ts'.length : Int)) = true := by rw [bne_iff_ne]; omega
    clear hE e1 e2 e3 e4 e5 Bx By hl1 hl2 hm1 hm2
    go_enter Tryz.func26, Tryz.ntmps26
    go_wp2
    go_ret
    rw [← HW.out]
    exact ⟨ret_bool HF.out.symm, hb⟩
  have f5 : ((ts.length : Int) != (ts'.length : Int)) = false := by rw [e5]; simp
  have H4 := Lib.hid e4
  have H5 := Lib.hid e5
  have l1 : ns.length ≤ ns'.length := by omega
  have l1' : ns'.length ≤ ns.length := by omega
  have l2 : ts.length ≤ ts'.length := by omega
  have l2' : ts'.length ≤ ts.length := by omega
  have HX := Lib.hid (⟨e1, e2, e3⟩ : k = k' ∧ n = n' ∧ s = s')
  have HE := Lib.hid hE
  clear hE e1 e2 e3 e4 e5
  go_enter Tryz.func26, Tryz.ntmps26
  go_upto_region 3 with fail
  rw [← HW.out]
  obtain ⟨x0, x1, x2, x3, x4⟩ := box_cells Bx
  obtain ⟨y0, y1, y2, y3, y4⟩ := box_cells By
  go_wp2_with fail
  clear x0 x1 x2 x3 x4 y0 y1 y2 y3 y4
  go_loopw [5] (fun i wr => ∃ (j : Nat), j ≤ ns.length ∧ i = .int .i64 j ∧ ns.take j = ns'.take j ∧ Blk wr w.heap.size 42 #[.int .i64 k, .int .i64 n, .string s, .slice A ns.length c, .slice A' ts.length c'] ∧
      Blk wr (w.heap.size + 1) 42 #[.int .i64 k', .int .i64 n', .string s', .slice D ns'.length d, .slice D' ts'.length d'] ∧ Below w.heap.size w wr) (fun i _ => ns.length - (intOf i).toNat)
  case atStart => exact ⟨0, Nat.zero_le _, rfl, rfl, Bx, By, hb⟩
  case round =>
    clear Bx By hb HW
    obtain ⟨j, hj, rfl, heq, Bx, By, hb⟩ := hrel
    obtain ⟨x0, x1, x2, x3, x4⟩ := box_cells Bx
    obtain ⟨y0, y1, y2, y3, y4⟩ := box_cells By
    by_cases hlt : j < ns.length
    · obtain ⟨b, off, rfl, hbB, hc⟩ := (H1.out.below (hb.mono hB)).allI (by omega)
      obtain ⟨b', off', rfl, hbB', hc'⟩ := (G1.out.below (hb.mono hB)).allI (by omega)
      have q := hc j hlt
      have q' := hc' j (by omega)
      have hi0 : (0 : Int) ≤ (j : Int) := by omega
      have hi1 : (j : Int) < (ns.length : Int) := by omega
      have hi2 : (j : Int) < (ns'.length : Int) := by omega
      clear hc hc'
      by_cases hne : nthI ns j = nthI ns' j
      · have hb1 : (nthI ns j != nthI ns' j) = false := by simp [hne]
        have Hq : Hid (ns.take (j + 1) = ns'.take (j + 1)) := Lib.hid (by rw [takeI_succ hlt, takeI_succ (by omega), heq, hne])
        clear heq hne
        go_wp2
        go_quiet (fail)
        go_wp2
        go_roundw
        case rel => exact ⟨j + 1, by omega, by go_num, Hq.out, Bx, By, below_drewN hb _⟩
        case measure => simp [intOf]; omega
      · have hb1 : (nthI ns j != nthI ns' j) = true := by simpa using hne
        have HF : Hid (E = false) := Lib.hid (by rw [HE.out]; exact decide_eq_false (fun h => hne (by rw [h.2.2.2.1])))
        clear heq hne
        go_wp2
        go_quiet (fail)
        go_wp2
        go_ret
        exact ⟨ret_bool HF.out.symm, below_drewN hb _⟩
    · have HN : Hid (ns = ns') := Lib.hid (by rw [List.take_of_length_le (by omega), List.take_of_length_le (by omega)] at heq; exact heq)
      obtain rfl : j = ns.length := by omega
      clear heq
      obtain ⟨w4, rfl⟩ : ∃ x : World, x = wr := ⟨_, rfl⟩
      go_wp2_with fail
      clear x0 x1 x2 x3 x4 y0 y1 y2 y3 y4
      go_loopw [6] (fun i wr => ∃ (j : Nat), j ≤ ts.length ∧ i = .int .i64 j ∧ ts.take j = ts'.take j ∧ Blk wr w.heap.size 42 #[.int .i64 k, .int .i64 n, .string s, .slice A ns.length c, .slice A' ts.length c'] ∧
          Blk wr (w.heap.size + 1) 42 #[.int .i64 k', .int .i64 n', .string s', .slice D ns'.length d, .slice D' ts'.length d'] ∧ Below w.heap.size w wr) (fun i _ => ts.length - (intOf i).toNat)
      case atStart => exact ⟨0, Nat.zero_le _, rfl, rfl, Bx, By, hb⟩
      case round =>
        clear Bx By hb
        obtain ⟨j, hj, rfl, heq, Bx, By, hb⟩ := hrel
        obtain ⟨x0, x1, x2, x3, x4⟩ := box_cells Bx
        obtain ⟨y0, y1, y2, y3, y4⟩ := box_cells By
        by_cases hlt : j < ts.length
        · obtain ⟨b, off, rfl, hbB, hc⟩ := (H2.out.below (hb.mono hB)).allS (by omega)
          obtain ⟨b', off', rfl, hbB', hc'⟩ := (G2.out.below (hb.mono hB)).allS (by omega)
          have q := hc j hlt
          have q' := hc' j (by omega)
          have hi0 : (0 : Int) ≤ (j : Int) := by omega
          have hi1 : (j : Int) < (ts.length : Int) := by omega
          have hi2 : (j : Int) < (ts'.length : Int) := by omega
          clear hc hc'
          by_cases hne : nthS ts j = nthS ts' j
          · have hb1 : ((nthS ts j).toList == (nthS ts' j).toList) = true := by rw [hne]; exact beq_self_eq_true _
            have Hq : Hid (ts.take (j + 1) = ts'.take (j + 1)) := Lib.hid (by rw [takeS_succ hlt, takeS_succ (by omega), heq, hne])
            clear heq hne
            go_wp2
            go_quiet (fail)
            go_wp2
            go_roundw
            case rel => exact ⟨j + 1, by omega, by go_num, Hq.out, Bx, By, below_drewN hb _⟩
            case measure => simp [intOf]; omega
          · have hb1 : ((nthS ts j).toList == (nthS ts' j).toList) = false := by
              rw [beq_eq_false_iff_ne]; exact fun e => hne (str_inj e)
            have HF : Hid (E = false) := Lib.hid (by rw [HE.out]; exact decide_eq_false (fun h => hne (by rw [h.2.2.2.2])))
            clear heq hne
            go_wp2
            go_quiet (fail)
            go_wp2
            go_ret
            exact ⟨ret_bool HF.out.symm, below_drewN hb _⟩
        · have HF : Hid (E = true) := Lib.hid (by
            rw [List.take_of_length_le (by omega), List.take_of_length_le (by omega)] at heq
            rw [HE.out]
            exact decide_eq_true ⟨HX.out.1, HX.out.2.1, HX.out.2.2, HN.out, heq⟩)
          clear heq
          go_wp2
          go_ret
          exact ⟨ret_bool HF.out.symm, hb⟩

end Go.Proofs.YtgpahglmhnnobaaGreatDoor
