/- Same of the program and of the document, whole. -/
import Derived.Test.YthnaipgdjbaebaaGreatValSame
import Derived.Deep.Cut
import Derived.Deep.RegionHeld3
import Derived.Deep.RegionLaw
import Derived.BigRegion
import Derived.IntWalk
namespace Go.Proofs.YthnaipgdjbaebaaGreat
open Go.RowKit
set_option linter.unusedVariables false

set_option maxRecDepth 100000 in
set_option maxHeartbeats 1000000 in
theorem Same_any (a b : Vv) (x y : Value) (B : Nat) (w : World) (h : VR w B a x) (h' : VR w B b y) (hB : B ≤ w.heap.size) :
    Calls Tryz.prog 99 #[x, y] w (Says (sameV a b) w) := by
  obtain ⟨A, c, A', c', rfl, h1, h2, h3⟩ := h
  obtain ⟨D, d, D', d', rfl, g1, g2, g3⟩ := h'
  have hl1 := h3.ns2
  have hl2 := h3.ts2
  have hm1 := g3.ns2
  have hm2 := g3.ts2
  rw [sameV_eq]
  obtain ⟨k, n, s, ns, ts⟩ := a
  obtain ⟨k', n', s', ns', ts'⟩ := b
  unfold vagg
  simp only at hl1 hl2 hm1 hm2 h1 h2 g1 g2 ⊢
  obtain ⟨E, hE⟩ : ∃ E, E = decide (k = k' ∧ n = n' ∧ s = s' ∧ ns = ns' ∧ ts = ts') := ⟨_, rfl⟩
  rw [← hE]
  obtain ⟨W, hW⟩ : ∃ W, W = (w.alloc (.cells #[.int .i64 k, .int .i64 n, .string s, .slice A ns.length c, .slice A' ts.length c'] 43)).alloc (.cells #[.int .i64 k', .int .i64 n', .string s', .slice D ns'.length d, .slice D' ts'.length d'] 43) := ⟨_, rfl⟩
  have hb : Below w.heap.size w W := by subst hW; exact ((Below.refl _ _).alloc (Nat.le_refl _) _).alloc (by simp) _
  have HI := Lib.hid (equalI_any A D c d B B ns ns' W (h1.below (hb.mono hB)) (g1.below (hb.mono hB)) (by unfold maxLen; omega) (by unfold maxLen; omega))
  have HS := Lib.hid fun m => equalS_any A' D' c' d' B B ts ts' (W.drewN m) ((h2.below (hb.mono hB)).drewN m) ((g2.below (hb.mono hB)).drewN m) (by unfold maxLen; omega) (by unfold maxLen; omega)
  rw [hW] at HI
  simp only [hW] at HS
  have HW := Lib.hid hW
  clear h1 h2 h3 g1 g2 g3 hl1 hl2 hm1 hm2 hW
  by_cases e1 : k = k'
  case neg =>
    have f1 : (k == k') = false := by simpa using e1
    have HF : Hid (E = false) := Lib.hid (by rw [hE]; exact decide_eq_false (fun h => e1 h.1))
    clear hE e1
    go_enter Tryz.func99, Tryz.ntmps99
    go_wp2
    go_ret
    rw [← HW.out]
    exact ⟨ret_bool HF.out.symm, hb⟩
  have f1 : (k == k') = true := by simpa using e1
  by_cases e2 : n = n'
  case neg =>
    have f2 : (n == n') = false := by simpa using e2
    have HF : Hid (E = false) := Lib.hid (by rw [hE]; exact decide_eq_false (fun h => e2 h.2.1))
    clear hE e1 e2
    go_enter Tryz.func99, Tryz.ntmps99
    go_wp2
    go_ret
    rw [← HW.out]
    exact ⟨ret_bool HF.out.symm, hb⟩
  have f2 : (n == n') = true := by simpa using e2
  by_cases e3 : s = s'
  case neg =>
    have f3 : (s.toList == s'.toList) = false := by rw [beq_eq_false_iff_ne]; exact fun e => e3 (str_inj e)
    have HF : Hid (E = false) := Lib.hid (by rw [hE]; exact decide_eq_false (fun h => e3 h.2.2.1))
    clear hE e1 e2 e3
    go_enter Tryz.func99, Tryz.ntmps99
    go_wp2
    go_ret
    rw [← HW.out]
    exact ⟨ret_bool HF.out.symm, hb⟩
  have f3 : (s.toList == s'.toList) = true := by rw [e3]; exact beq_self_eq_true _
  by_cases e4 : ns = ns'
  case neg =>
    have HF : Hid (E = false) := Lib.hid (by rw [hE]; exact decide_eq_false (fun h => e4 h.2.2.2.1))
    rw [decide_eq_false e4] at HI
    clear hE e1 e2 e3 e4
    go_enter Tryz.func99, Tryz.ntmps99
    go_wp2_with (go_at_call 122; refine (HI.out).mono ?_; rintro e w' ⟨rfl, m, rfl⟩)
    go_ret
    rw [← HW.out]
    exact ⟨ret_bool HF.out.symm, below_drewN hb _⟩
  rw [decide_eq_true e4] at HI
  by_cases e5 : ts = ts'
  case neg =>
    have HF : Hid (E = false) := Lib.hid (by rw [hE]; exact decide_eq_false (fun h => e5 h.2.2.2.2))
    rw [decide_eq_false e5] at HS
    clear hE e1 e2 e3 e4 e5
    go_enter Tryz.func99, Tryz.ntmps99
    go_wp2_with (first | (go_at_call 122; refine (HI.out).mono ?_; rintro e w' ⟨rfl, m, rfl⟩) | (go_at_call 75; refine (HS.out _).mono ?_; rintro e w' ⟨rfl, m2, rfl⟩))
    go_ret
    rw [← HW.out]
    exact ⟨ret_bool HF.out.symm, below_drewN hb _⟩
  have HF : Hid (E = true) := Lib.hid (by rw [hE]; exact decide_eq_true ⟨e1, e2, e3, e4, e5⟩)
  rw [decide_eq_true e5] at HS
  clear hE e1 e2 e3 e4 e5
  go_enter Tryz.func99, Tryz.ntmps99
  go_wp2_with (first | (go_at_call 122; refine (HI.out).mono ?_; rintro e w' ⟨rfl, m, rfl⟩) | (go_at_call 75; refine (HS.out _).mono ?_; rintro e w' ⟨rfl, m2, rfl⟩))
  go_ret
  rw [← HW.out]
  exact ⟨ret_bool HF.out.symm, below_drewN hb _⟩

end Go.Proofs.YthnaipgdjbaebaaGreat
