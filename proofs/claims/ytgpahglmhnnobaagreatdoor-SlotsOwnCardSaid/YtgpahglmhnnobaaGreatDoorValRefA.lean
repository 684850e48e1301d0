/- The document's Check. -/
import Derived.Test.YtgpahglmhnnobaaGreatDoorValCheckA
import Derived.Deep.Cut
import Derived.Deep.RegionHeld3
import Derived.Deep.RegionLaw
import Derived.BigRegion
import Derived.IntWalk
namespace Go.Proofs.YtgpahglmhnnobaaGreatDoor
open Go.RowKit
set_option linter.unusedVariables false

set_option maxRecDepth 100000 in
set_option maxHeartbeats 2000000 in
theorem refCheck_no (v : Vv) (x : Value) (B : Nat) (w : World) (h : VR w B v x) (hB : B ≤ w.heap.size) (hno : gk v.k = false ∨ ownB v = false) :
    Calls Tryz.prog 21 #[x] w (Told (chk v) w) := by
  obtain ⟨A, c, A', c', rfl, h1, h2, h3⟩ := h
  have hk1 := h3.k1
  have hk2 := h3.k2
  have hn2 := h3.ns2
  have ht2 := h3.ts2
  have Hk := Lib.hid (@chk_kind v)
  have Hf := Lib.hid (@chk_field v)
  have hof := Lib.hid (@own_false v)
  obtain ⟨k, n, s, ns, ts⟩ := v
  unfold vagg
  simp only at hk1 hk2 hn2 ht2 Hk Hf hno hof ⊢
  obtain ⟨E, hE⟩ : ∃ E, E = chk ⟨k, n, s, ns, ts⟩ := ⟨_, rfl⟩
  rw [← hE] at Hk Hf ⊢
  clear h1 h2 h3 hE
  by_cases hg : gk k = true
  · have hkk : 1 ≤ k ∧ k ≤ 8 := by unfold gk at hg; exact of_decide_eq_true hg
    obtain ⟨g1, g2⟩ := hkk
    have hown : ownB ⟨k, n, s, ns, ts⟩ = false := hno.resolve_left (by rw [hg]; simp)
    have HF := Lib.hid (Hf.out hg hown)
    have HO := Lib.hid (hof.out hown)
    clear Hk Hf hof hno hg hown
    go_enter Tryz.func21, Tryz.ntmps21
    go_upto_region 5 with fail
    all_goals first
      | (exfalso; have hX := HO.out; clear HO HF; grind)
      | (go_wp2; go_ret; exact ⟨ret_int HF.out.symm, (Below.refl _ _).alloc (Nat.le_refl _) _⟩)
  · have hg : gk k = false := by simpa using hg
    have HF := Lib.hid (Hk.out hg)
    have hkk : ¬ (1 ≤ k ∧ k ≤ 8) := by unfold gk at hg; exact of_decide_eq_false hg
    clear Hk Hf hof hno hg
    by_cases g1 : k < 1
    · go_enter Tryz.func21, Tryz.ntmps21
      go_wp2
      go_ret
      exact ⟨ret_int HF.out.symm, (Below.refl _ _).alloc (Nat.le_refl _) _⟩
    · have g2 : 8 < k := by omega
      go_enter Tryz.func21, Tryz.ntmps21
      go_wp2
      go_ret
      exact ⟨ret_int HF.out.symm, (Below.refl _ _).alloc (Nat.le_refl _) _⟩

set_option maxRecDepth 100000 in
set_option maxHeartbeats 2000000 in
theorem refCheck_lo (v : Vv) (x : Value) (B : Nat) (w : World) (h : VR w B v x) (hB : B ≤ w.heap.size) (hk1 : 1 ≤ v.k) (hk2 : v.k < 4) (hown : ownB v = true) :
    Calls Tryz.prog 21 #[x] w (Told (chk v) w) := by
  obtain ⟨A, c, A', c', rfl, h1, h2, h3⟩ := h
  have hw := own_true hown
  have hns := hw.2.2.1 (.inl (by omega))
  have hts := hw.2.2.2 (by omega)
  have hs := hw.2.1 (by omega)
  rw [chk_el (gk_yes ⟨hk1, by omega⟩) hown (by rw [hns, hts]; simp), el_lo hk2]
  have hn1 := h3.n1
  have hn2 := h3.n2
  obtain ⟨k, n, s, ns, ts⟩ := v
  unfold vagg
  simp only at hk1 hk2 hns hts hs hn1 hn2 ⊢
  subst hns hts
  have hs2 : (!s.toList.isEmpty) = false := by rw [hs]; rfl
  by_cases hn0 : n = 0
  · subst hn0
    have HC := Lib.hid fun w => numWrong_any k 0 w hn1 hn2
    obtain ⟨E, hE⟩ : ∃ E, E = numW k 0 := ⟨_, rfl⟩
    rw [← hE] at HC ⊢
    clear h1 h2 h3 hown hw hE hn1 hn2
    go_enter Tryz.func21, Tryz.ntmps21
    go_wp2_with (go_at_call 42; refine (HC.out _).mono ?_; rintro e w' ⟨rfl, rfl⟩)
    go_ret
    exact ⟨rfl, (Below.refl _ _).alloc (Nat.le_refl _) _⟩
  · have HC := Lib.hid fun w => numWrong_any k n w hn1 hn2
    obtain ⟨E, hE⟩ : ∃ E, E = numW k n := ⟨_, rfl⟩
    rw [← hE] at HC ⊢
    have hb : (n != 0) = true := by simpa using hn0
    clear h1 h2 h3 hown hw hE hn1 hn2 hn0
    go_enter Tryz.func21, Tryz.ntmps21
    go_wp2_with (go_at_call 42; refine (HC.out _).mono ?_; rintro e w' ⟨rfl, rfl⟩)
    go_ret
    exact ⟨rfl, (Below.refl _ _).alloc (Nat.le_refl _) _⟩

set_option maxRecDepth 100000 in
set_option maxHeartbeats 2000000 in
theorem refCheck_four (v : Vv) (x : Value) (B : Nat) (w : World) (h : VR w B v x) (hB : B ≤ w.heap.size) (hk : v.k = 4) (hown : ownB v = true) :
    Calls Tryz.prog 21 #[x] w (Told (chk v) w) := by
  obtain ⟨A, c, A', c', rfl, h1, h2, h3⟩ := h
  have hw := own_true hown
  have hns := hw.2.2.1 (.inl (by omega))
  have hts := hw.2.2.2 (by omega)
  have hn := hw.1 (by omega)
  rw [chk_el (gk_yes ⟨by omega, by omega⟩) hown (by rw [hns, hts]; simp), el_four hk]
  have hsz := h3.s1
  obtain ⟨k, n, s, ns, ts⟩ := v
  unfold vagg
  simp only at hk hns hts hn hsz ⊢
  subst hns hts hn hk
  clear h1 h2 h3 hown hw
  unfold txtW
  by_cases hl : 1000 < s.size
  · rw [if_pos hl]
    go_enter Tryz.func21, Tryz.ntmps21
    go_wp2
    all_goals (go_ret; exact ⟨rfl, (Below.refl _ _).alloc (Nat.le_refl _) _⟩)
  · rw [if_neg hl]
    go_enter Tryz.func21, Tryz.ntmps21
    go_upto_region 11 with fail
    all_goals (
      go_wp2_with fail
      go_loop [3] (fun i => i = .int .i64 0) (fun _ => 0)
      case atStart => rfl
      case round =>
        subst hrel
        go_wp2_with fail
        go_loop [5] (fun i => i = .int .i64 0) (fun _ => 0)
        case atStart => rfl
        case round =>
          subst hrel
          go_wp2
          go_ret
          exact ⟨rfl, (Below.refl _ _).alloc (Nat.le_refl _) _⟩)

end Go.Proofs.YtgpahglmhnnobaaGreatDoor

/- The document's Check, of lists, and whole. -/
namespace Go.Proofs.YtgpahglmhnnobaaGreatDoor
open Go.RowKit
set_option linter.unusedVariables false

set_option maxRecDepth 100000 in
set_option maxHeartbeats 2000000 in
theorem refCheck_eight (v : Vv) (x : Value) (B : Nat) (w : World) (h : VR w B v x) (hB : B ≤ w.heap.size) (hk : v.k = 8) (hown : ownB v = true) :
    Calls Tryz.prog 21 #[x] w (Told (chk v) w) := by
  obtain ⟨A, c, A', c', rfl, h1, h2, h3⟩ := h
  have hw := own_true hown
  have hn := hw.1 (by omega)
  have hs := hw.2.1 (by omega)
  have hns := hw.2.2.1 (.inr hk)
  have hE : chk v = if 40 < v.ts.length then 45 else fe txtW v.ts := by
    by_cases h40 : 40 < v.ts.length
    · rw [if_pos h40, chk_list (gk_yes ⟨by omega, by omega⟩) hown (by omega)]
    · rw [if_neg h40, chk_el (gk_yes ⟨by omega, by omega⟩) hown (by rw [hns]; simp; omega), el_eight hk hns]
  have hl2 := h3.ts2
  have hr2 := h3.ts1
  obtain ⟨k, n, s, ns, ts⟩ := v
  unfold vagg
  simp only at hk hn hs hns hE hl2 hr2 h2 ⊢
  subst hn hk hns
  obtain ⟨E, hE'⟩ : ∃ E, E = chk ⟨8, 0, s, [], ts⟩ := ⟨_, rfl⟩
  rw [← hE'] at hE
  rw [← hE']
  have HE := Lib.hid hE
  have HR2 := Lib.hid hr2
  obtain ⟨wo, hwo⟩ : ∃ x, x = w.alloc (.cells #[.int .i64 8, .int .i64 0, .string s, .slice A 0 c, .slice A' ts.length c'] 42) := ⟨_, rfl⟩
  have r2 : RL svl wo B A' ts := by subst hwo; exact h2.alloc hB _
  have hb : Below w.heap.size w wo := by subst hwo; exact (Below.refl _ _).alloc (Nat.le_refl _) _
  have hs2 : (!s.toList.isEmpty) = false := by rw [hs]; rfl
  have Bo : Blk wo w.heap.size 42 #[.int .i64 8, .int .i64 0, .string s, .slice A 0 c, .slice A' ts.length c'] := by subst hwo; exact Blk.new _ _ _
  have HW := Lib.hid hwo
  clear h1 h2 h3 hown hw hE hE' hr2 hwo
  rcases (show ¬ 0 < ts.length ∨ (0 < ts.length ∧ ¬ 40 < ts.length) ∨ 40 < ts.length by omega) with p | ⟨p, p2⟩ | p
  case' inr.inr =>
    have HF : Hid (E = 45) := Lib.hid (by rw [HE.out, if_pos p])
    go_enter Tryz.func21, Tryz.ntmps21
    go_wp2
    go_ret
    rw [← HW.out]
    exact ⟨ret_int HF.out.symm, hb⟩
  all_goals
    have HF : Hid (E = fe txtW ts) := Lib.hid (by rw [HE.out, if_neg (by omega)])
    go_enter Tryz.func21, Tryz.ntmps21
    go_upto_region 11 with fail
    rw [← HW.out]
    obtain ⟨q0, q1, q2, q3, q4⟩ := box_cells Bo
    go_wp2_with fail
    go_loop [3] (fun i => i = .int .i64 0) (fun _ => 0)
    case atStart => rfl
    case round =>
      subst hrel
      go_wp2_with fail
      go_loop [5] (fun i => ∃ j : Nat, j ≤ ts.length ∧ i = .int .i64 j ∧ fe txtW (ts.take j) = 0) (fun i => ts.length - (intOf i).toNat)
      case atStart => exact ⟨0, Nat.zero_le _, rfl, rfl⟩
      case round =>
        obtain ⟨j, hj, rfl, hz⟩ := hrel
        by_cases hlt : j < ts.length
        · have hp : 0 < ts.length := by omega
          first
            | exact absurd hp p
            | (obtain ⟨b, off, rfl, -, hc⟩ := r2.allS (by omega)
               have q := hc j hlt
               have hst := feS_step hlt hz
               have hft := fe_take txtW ts (j + 1)
               have hr := HR2.out (nthS ts j) (by rw [nthS_lt hlt]; exact List.getElem_mem hlt)
               obtain ⟨t, ht⟩ : ∃ t, t = nthS ts j := ⟨_, rfl⟩
               rw [← ht] at q hst hr
               by_cases h0 : 1000 < t.size
               · have hw : txtW t = 44 := if_pos h0
                 have HF2 : Hid (E = 44) := Lib.hid (by rw [HF.out, hft (by rw [hst, hw]; decide), hst, hw])
                 clear hst hft hc hz hw ht
                 go_wp2
                 go_ret
                 exact ⟨ret_int HF2.out.symm, hb⟩
               · have hw : txtW t = 0 := if_neg h0
                 have Hst : Hid (fe txtW (ts.take (j + 1)) = 0) := Lib.hid (by rw [hst, hw])
                 clear hst hft hc hz hw ht
                 go_wp2
                 go_round
                 case rel => exact ⟨j + 1, by omega, by go_num, Hst.out⟩
                 case measure => simp [intOf]; omega)
        · obtain rfl : j = ts.length := by omega
          rw [List.take_length] at hz
          have HF2 : Hid (E = 0) := Lib.hid (by rw [HF.out, hz])
          clear hz
          go_wp2
          go_ret
          exact ⟨ret_int HF2.out.symm, hb⟩

set_option maxRecDepth 100000 in
set_option maxHeartbeats 2000000 in
theorem refCheck_nums (v : Vv) (x : Value) (B : Nat) (w : World) (h : VR w B v x) (hB : B ≤ w.heap.size) (hk : 4 < v.k) (hk2 : v.k < 8) (hown : ownB v = true) :
    Calls Tryz.prog 21 #[x] w (Told (chk v) w) := by
  obtain ⟨A, c, A', c', rfl, h1, h2, h3⟩ := h
  have hw := own_true hown
  have hn := hw.1 (by omega)
  have hs := hw.2.1 (by omega)
  have hts := hw.2.2.2 (by omega)
  have hE : chk v = if 40 < v.ns.length then 45 else fe (numW (v.k - 4)) v.ns := by
    by_cases h40 : 40 < v.ns.length
    · rw [if_pos h40, chk_list (gk_yes ⟨by omega, by omega⟩) hown (by omega)]
    · rw [if_neg h40, chk_el (gk_yes ⟨by omega, by omega⟩) hown (by rw [hts]; simp; omega), el_nums hk hts]
  have hl2 := h3.ns2
  have hr2 := h3.ns1
  obtain ⟨k, n, s, ns, ts⟩ := v
  unfold vagg
  simp only at hk hk2 hn hs hts hE hl2 hr2 h1 ⊢
  subst hn hts
  obtain ⟨E, hE'⟩ : ∃ E, E = chk ⟨k, 0, s, ns, []⟩ := ⟨_, rfl⟩
  rw [← hE'] at hE
  rw [← hE']
  have HE := Lib.hid hE
  have HR2 := Lib.hid hr2
  obtain ⟨wo, hwo⟩ : ∃ x, x = w.alloc (.cells #[.int .i64 k, .int .i64 0, .string s, .slice A ns.length c, .slice A' 0 c'] 42) := ⟨_, rfl⟩
  have r2 : RL ivl wo B A ns := by subst hwo; exact h1.alloc hB _
  have hb : Below w.heap.size w wo := by subst hwo; exact (Below.refl _ _).alloc (Nat.le_refl _) _
  have hs2 : (!s.toList.isEmpty) = false := by rw [hs]; rfl
  have hk8 : (k == 8) = false := by simp; omega
  have hk4 : (k == 4) = false := by simp; omega
  have hk5 : decide (k < 5) = false := decide_eq_false (by omega)
  have Bo : Blk wo w.heap.size 42 #[.int .i64 k, .int .i64 0, .string s, .slice A ns.length c, .slice A' 0 c'] := by subst hwo; exact Blk.new _ _ _
  have HW := Lib.hid hwo
  clear h1 h2 h3 hown hw hE hE' hr2 hwo
  rcases (show ¬ 0 < ns.length ∨ (0 < ns.length ∧ ¬ 40 < ns.length) ∨ 40 < ns.length by omega) with p | ⟨p, p2⟩ | p
  case' inr.inr =>
    have HF : Hid (E = 45) := Lib.hid (by rw [HE.out, if_pos p])
    go_enter Tryz.func21, Tryz.ntmps21
    go_wp2
    go_ret
    rw [← HW.out]
    exact ⟨ret_int HF.out.symm, hb⟩
  all_goals
    have HF : Hid (E = fe (numW (k - 4)) ns) := Lib.hid (by rw [HE.out, if_neg (by omega)])
    go_enter Tryz.func21, Tryz.ntmps21
    go_upto_region 11 with fail
    rw [← HW.out]
    obtain ⟨q0, q1, q2, q3, q4⟩ := box_cells Bo
    go_wp2_with fail
    go_loopw [3] (fun i wr => ∃ (j : Nat), j ≤ ns.length ∧ i = .int .i64 j ∧ fe (numW (k - 4)) (ns.take j) = 0 ∧ Blk wr w.heap.size 42 #[.int .i64 k, .int .i64 0, .string s, .slice A ns.length c, .slice A' 0 c'] ∧ RL ivl wr B A ns ∧ Below w.heap.size w wr) (fun i _ => ns.length - (intOf i).toNat)
    case atStart => exact ⟨0, Nat.zero_le _, rfl, rfl, Bo, r2, hb⟩
    case round =>
      obtain ⟨j, hj, rfl, hz, Br, rr, hbr⟩ := hrel
      clear q0 q1 q2 q3 q4
      obtain ⟨q0, q1, q2, q3, q4⟩ := box_cells Br
      by_cases hlt : j < ns.length
      · have hp : 0 < ns.length := by omega
        first
          | exact absurd hp p
          | (obtain ⟨b, off, rfl, -, hc⟩ := rr.allI (by omega)
             have q := hc j hlt
             have hst := feI_step hlt hz
             have hft := fe_take (numW (k - 4)) ns (j + 1)
             have hr := HR2.out (nthI ns j) (by rw [nthI_lt hlt]; exact List.getElem_mem hlt)
             obtain ⟨t, ht⟩ : ∃ t, t = nthI ns j := ⟨_, rfl⟩
             rw [← ht] at q hst hr
             have HC := Lib.hid fun w => numWrong_any (k - 4) t w hr.1 hr.2
             have hw4 : IntKind.i64.wrap (k - 4) = k - 4 := IntWalk.i64_in _ (by omega)
             have hj0 : (0 : Int) ≤ (j : Int) := by omega
             have hjl : (j : Int) < (ns.length : Int) := by omega
             obtain ⟨z, hzz⟩ : ∃ z, z = numW (k - 4) t := ⟨_, rfl⟩
             rw [← hzz] at HC hst
             by_cases h0 : z = 0
             · subst h0
               have Hst := Lib.hid hst
               clear hst hft hc hz hzz hr ht
               go_wp2_with fail
               go_quiet ((go_at_call 42; exact Calls.quiet_of_same ((HC.out _).mono fun e w' h => ⟨h.1, h.2.symm⟩)))
               go_wp2
               go_roundw
               case rel => exact ⟨j + 1, by omega, by go_num, Hst.out, Br, rr, below_drewN hbr _⟩
               case measure => simp [intOf]; omega
             · have hb0 : (z != 0) = true := by simpa using h0
               have HF2 : Hid (E = z) := Lib.hid (by rw [HF.out, hft (by rw [hst]; exact h0), hst])
               clear hst hft hc hz hzz h0 hr ht
               go_wp2_with fail
               go_quiet ((go_at_call 42; exact Calls.quiet_of_same ((HC.out _).mono fun e w' h => ⟨h.1, h.2.symm⟩)))
               go_wp2
               go_ret
               exact ⟨ret_int HF2.out.symm, below_drewN hbr _⟩)
      · obtain rfl : j = ns.length := by omega
        rw [List.take_length] at hz
        have HF2 : Hid (E = 0) := Lib.hid (by rw [HF.out, hz])
        clear hz
        go_wp2_with fail
        go_loop [5] (fun i => i = .int .i64 0) (fun _ => 0)
        case atStart => rfl
        case round =>
          subst hrel
          go_wp2
          go_ret
          exact ⟨ret_int HF2.out.symm, hbr⟩

theorem refCheck_any (v : Vv) (x : Value) (B : Nat) (w : World) (h : VR w B v x) (hB : B ≤ w.heap.size) :
    Calls Tryz.prog 21 #[x] w (Told (chk v) w) := by
  by_cases hg : gk v.k = true
  · have hkk : 1 ≤ v.k ∧ v.k ≤ 8 := by unfold gk at hg; exact of_decide_eq_true hg
    by_cases ho : ownB v = true
    · rcases (show v.k < 4 ∨ v.k = 4 ∨ (4 < v.k ∧ v.k < 8) ∨ v.k = 8 by omega) with k | k | ⟨k, k2⟩ | k
      · exact refCheck_lo v x B w h hB hkk.1 k ho
      · exact refCheck_four v x B w h hB k ho
      · exact refCheck_nums v x B w h hB k k2 ho
      · exact refCheck_eight v x B w h hB k ho
    · exact refCheck_no v x B w h hB (.inr (by simpa using ho))
  · exact refCheck_no v x B w h hB (.inl (by simpa using hg))

end Go.Proofs.YtgpahglmhnnobaaGreatDoor
