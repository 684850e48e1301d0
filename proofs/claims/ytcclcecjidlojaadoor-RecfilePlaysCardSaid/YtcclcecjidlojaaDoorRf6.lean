/- recfile: Free, Alloc. -/
import Derived.Test.YtcclcecjidlojaaDoorRf5
import Derived.Deep.CutRange
namespace Go.Proofs.YtcclcecjidlojaaDoor
open Go.RowKit
set_option linter.unusedVariables false
section
variable {S0 : Fp} {l : List Ass} {w0 w : World} {g : Nat} {K V S : Int} {R : List Nat} {lv lo : Int}

theorem cells8_zeros (n : Nat) : cells8 (List.replicate n 0) = List.replicate n (.int .u8 0) := by simp [cells8]
theorem zeros_bytes (n : Nat) : IsBytes (List.replicate n 0) := fun x hx => by rw [List.eq_of_mem_replicate hx]; omega
theorem zero_u8 (w : World) : (zeroValue 5).run Tryd.prog w = .ok (.int .u8 0) w := by kernel_rfl
set_option maxRecDepth 100000 in
set_option maxHeartbeats 800000 in
theorem rfFree_ok [Stable (Sep l)] {s n id lw : Nat} (h : St S0 (RfA g K V (s : Int) R lv (lw : Int) :: l) w0 w) (hs : 2 ≤ s) (hs2 : s ≤ 255) (hR : R.length = n * s) (hn : n ≤ 65536) (hu : usedB R s n (id : Int) = true) (hlv : 0 ≤ lv) (hlv2 : lv ≤ 1099511627776) :
    Calls Tryd.prog 25 #[.pointer (some ⟨g, 0, none⟩), .int .i64 (id : Int)] w fun e w' => e = .returned (.int .i64 0) ∧ St S0 (RfA g K V (s : Int) (layB R (id * s) (List.replicate s 0)) (lv - 1) ((min lw id : Nat) : Int) :: l) w0 w' := by
  have hRm := rf_big hR hn hs2
  have hid := usedB_lt hu
  have hle := rec_in hR hid
  obtain ⟨A, cap, hr⟩ := rf_read h
  obtain ⟨b, rfl⟩ := rf_rowAt h hr (by omega)
  have hU := rfUsed_any hr (by omega) hR hRm (id : Int)
  rw [hu] at hU
  obtain ⟨k, hk⟩ : ∃ k, k = id * s := ⟨_, rfl⟩
  rw [← hk] at hle ⊢
  have s0 : 0 < s := by omega
  have w1 : wrap64 (lv - 1) = lv - 1 := rfwrap (by omega) (by omega)
  have hmin : min (lw : Int) (id : Int) = ((min lw id : Nat) : Int) := by omega
  obtain ⟨M, hM⟩ : ∃ M : Int, M = ((min lw id : Nat) : Int) := ⟨_, rfl⟩
  rw [← hM] at hmin ⊢
  have HH := Lib.hid h
  have HU := Lib.hid hU
  have HR := Lib.hid hr
  have HK := Lib.hid hk
  have HLE := Lib.hid hle
  have HRM := Lib.hid hRm
  clear h hU hr hk hle hRm hs hs2 hR hn hu hid hlv hlv2 hM
  go_enter Tryd.func25, Tryd.ntmps25
  go_upto_region 4 with (first
    | (go_at_call 51; refine (HU.out).mono ?_; rintro e w1 ⟨rfl, q1, hw1⟩; have HW1 := Lib.hid hw1; have hr1 : RfR w1 g (s : Int) (some ⟨b, 0, none⟩) cap R lv (lw : Int) := (by rw [hw1]; exact HR.out.drewN q1); have HR1 := Lib.hid hr1; clear hw1 hr1)
    | (go_at_call 57; refine (rfRecord_any HR1.out HK.out HLE.out s0 HRM.out).mono ?_; rintro e w2 ⟨rfl, q2, hw2⟩; have h2 : St S0 (RfA g K V (s : Int) R lv (lw : Int) :: l) w0 w2 := (by rw [hw2, HW1.out]; exact (HH.out.drewN q1).drewN q2); rw [Nat.zero_add]; obtain ⟨v, hv⟩ := rf_open h2; have hr2 : RfR w2 g (s : Int) (some ⟨b, 0, none⟩) cap R lv (lw : Int) := (by rw [hw2, HW1.out]; exact (HR.out.drewN q1).drewN q2); have h3 := hr2.2.1; rw [(rf_cells hv).2.2.2.1] at h3; simp only [Option.some.injEq] at h3; subst h3; obtain ⟨p1, p2⟩ := hv.swap.ob.spots rfl; have hcl := Lib.run_clear_slice (P := Tryd.prog) w2 34 5 0 (.int .u8 0) Tryd.underlying34 zero_u8 rfl rfl b k s (cap - k) s0 (fun j hj => p1 _ (by have := HLE.out; omega)) (fun j hj => p2 _); have hst := hv.swap.layB rfl k (List.replicate s 0) (zeros_bytes s); rw [cells8_zeros] at hst; have HST := Lib.hid hst; clear hw2 h2 hr2 p1 p2 hst hv))
  obtain ⟨w3, hw3⟩ : ∃ q, q = w2.setCells b k (List.replicate s (Value.int .u8 0)) := ⟨_, rfl⟩
  have h3 := HST.out
  rw [← hw3] at h3 ⊢
  obtain ⟨c0, c1, c2, c3, c4, c5⟩ := rf_cells h3.swap
  have f4 := h3.swap.blk.frozen 4
  have H4 := Lib.hid (h3.swap.setBlk 4 (.int .i64 (lv - 1)))
  clear hw3 h3 HST hcl
  go_upto_region 5 with fail
  obtain ⟨w4, hw4⟩ : ∃ q, q = w3.setCell ⟨g, 4, none⟩ (.int .i64 (lv - 1)) := ⟨_, rfl⟩
  have h4 := H4.out
  rw [← hw4] at h4 ⊢
  have h4 : St S0 (BlkA g 72 #[.int .i64 K, .int .i64 V, .int .i64 (s : Int), .slice (some ⟨b, 0, none⟩) R.length cap, .int .i64 (lv - 1), .int .i64 (lw : Int)] :: ObA 5 (.slice (some ⟨b, 0, none⟩) R.length cap) (layB R k (List.replicate s 0)) :: l) w0 w4 := h4
  clear c0 c1 c2 c3 c4 c5 f4 H4 hw4
  obtain ⟨c0, c1, c2, c3, c4, c5⟩ := rf_cells h4
  have f5 := h4.blk.frozen 5
  have H5 := Lib.hid (h4.setBlk 5 (.int .i64 M))
  clear h4
  go_wp2
  go_ret
  exact ⟨rfl, rf_shut H5.out⟩
set_option maxHeartbeats 400000 in
theorem rfFree_no [Stable (Sep l)] {s n : Nat} {id : Int} (h : St S0 (RfA g K V (s : Int) R lv lo :: l) w0 w) (hs : 2 ≤ s) (hs2 : s ≤ 255) (hR : R.length = n * s) (hn : n ≤ 65536) (hu : usedB R s n id = false) :
    Calls Tryd.prog 25 #[.pointer (some ⟨g, 0, none⟩), .int .i64 id] w fun e w' => e = .returned (.int .i64 3) ∧ St S0 (RfA g K V (s : Int) R lv lo :: l) w0 w' := by
  have hRm := rf_big hR hn hs2
  obtain ⟨A, cap, hr⟩ := rf_read h
  have hU := rfUsed_any hr (by omega) hR hRm id
  rw [hu] at hU
  have HH := Lib.hid h
  have HU := Lib.hid hU
  clear h hU hr hRm hs hs2 hR hn hu
  go_enter Tryd.func25, Tryd.ntmps25
  go_wp2_with (go_at_call 51; refine (HU.out).mono ?_; rintro e w1 ⟨rfl, q1, hw1⟩; have h2 : St S0 (RfA g K V (s : Int) R lv lo :: l) w0 w1 := (by rw [hw1]; exact HH.out.drewN q1); have H2 := Lib.hid h2; clear hw1 h2)
  go_ret
  exact ⟨rfl, H2.out⟩

set_option maxRecDepth 100000 in
set_option maxHeartbeats 800000 in
theorem rfAlloc_full {s n : Nat} (h : St S0 (RfA g K V (s : Int) R 65536 lo :: l) w0 w) :
    Calls Tryd.prog 24 #[.pointer (some ⟨g, 0, none⟩)] w fun e w' => e = .returned (.tuple #[.int .i64 0, .int .i64 5]) ∧ w = w' := by
  obtain ⟨v, h1⟩ := rf_open h
  obtain ⟨c0, c1, c2, c3, c4, c5⟩ := rf_cells h1
  clear h h1
  go_enter Tryd.func24, Tryd.ntmps24
  go_wp2
  go_ret2
  exact ⟨rfl, rfl⟩
set_option maxRecDepth 100000 in
set_option maxHeartbeats 800000 in
theorem rfAlloc_ok [Stable (Sep l)] {s n lw : Nat} (h : St S0 (RfA g K V (s : Int) R lv (lw : Int) :: l) w0 w) (hs : 2 ≤ s) (hs2 : s ≤ 255) (hR : R.length = n * s) (hn : n ≤ 65536) (hlv : 0 ≤ lv) (hlv2 : lv ≤ 65535) (hlo : lw ≤ n) :
    Calls Tryd.prog 24 #[.pointer (some ⟨g, 0, none⟩)] w fun e w' => ∃ F : Nat, lw ≤ F ∧ F ≤ n ∧ (∀ j : Nat, lw ≤ j → j < F → usedB R s n (j : Int) = true) ∧ usedB R s n (F : Int) = false ∧ e = .returned (.tuple #[.int .i64 (F : Int), .int .i64 0]) ∧ St S0 (RfA g K V (s : Int) ((growR R (F * s + s)).set (F * s) 1) (lv + 1) ((F + 1 : Nat) : Int) :: l) w0 w' := by
  have hRm := rf_big hR hn hs2
  obtain ⟨v, h1⟩ := rf_open h
  obtain ⟨c0, c1, c2, c3, c4, c5⟩ := rf_cells h1
  have e0 : (lv == 65536) = false := beq_eq_false_iff_ne.2 (by omega)
  have e0' : decide (lv = 65536) = false := decide_eq_false (by omega)
  have HU := Lib.hid fun (w' : World) (h' : St S0 (RfA g K V (s : Int) R lv (lw : Int) :: l) w0 w') (id : Int) => by
    obtain ⟨A, cap, hr⟩ := rf_read h'
    exact rfUsed_any hr (by omega) hR hRm id
  have HT := Lib.hid fun (F : Nat) (hF : F ≤ n) (w' : World) (h' : St S0 (RfA g K V (s : Int) R lv (lw : Int) :: l) w0 w') => rfTake_any h' (k := F * s) (z := F * s + s) rfl rfl (by omega) hRm (by
    have : F * s ≤ 65536 * 255 := Nat.mul_le_mul (by omega) hs2
    omega) hlv (by omega)
  have hnu : ∀ k : Nat, usedB R s n (k : Int) = true → k < n := fun k hk => usedB_lt hk
  have HNU := Lib.hid hnu
  have HH := Lib.hid h
  have HN := Lib.hid hn
  clear h h1 hRm hs hs2 hR hlv hlv2 hnu hn
  go_enter Tryd.func24, Tryd.ntmps24
  go_wp2_with fail
  go_loopw [4] (fun i wr => ∃ k : Nat, lw ≤ k ∧ k ≤ n ∧ i = .int .i64 k ∧ (∀ j : Nat, lw ≤ j → j < k → usedB R s n (j : Int) = true) ∧ St S0 (RfA g K V (s : Int) R lv (lw : Int) :: l) w0 wr) (fun i _ => n - (intOf i).toNat)
  case atStart => exact ⟨lw, Nat.le_refl _, hlo, rfl, fun j h1 h2 => by omega, HH.out⟩
  case round =>
    obtain ⟨k, hk1, hk2, rfl, hall, hst⟩ := hrel
    have hu := HU.out wr hst (k : Int)
    have hnu := HNU.out k
    have hT := HT.out k hk2
    obtain ⟨u, hu0⟩ : ∃ u, u = usedB R s n (k : Int) := ⟨_, rfl⟩
    rw [← hu0] at hu hnu
    have hw : wrap64 ((k : Int) + 1) = (k : Int) + 1 := rfwrap (by omega) (by have := HN.out; omega)
    have HST := Lib.hid hst
    have HUU := Lib.hid hu
    have HU0 := Lib.hid hu0
    have HALL := Lib.hid hall
    have HTT := Lib.hid hT
    have HNN := Lib.hid hnu
    clear hst hu hu0 hall hT hnu c0 c1 c2 c3 c4 c5
    cases u
    · go_wp2_with (first
        | (go_at_call 51; refine (HUU.out).mono ?_; rintro e w1 ⟨rfl, q1, hw1⟩; have h2 : St S0 (RfA g K V (s : Int) R lv (lw : Int) :: l) w0 w1 := (by rw [hw1]; exact HST.out.drewN q1); have H2 := Lib.hid h2; clear hw1 h2)
        | (go_at_call 56; refine (HTT.out w1 H2.out).mono ?_; rintro e w2 ⟨rfl, h2⟩; obtain ⟨v2, h3⟩ := rf_open h2; obtain ⟨d0, d1, d2, d3, d4, d5⟩ := rf_cells h3; have f5 := h3.blk.frozen 5; have H3 := Lib.hid (h3.setBlk 5 (.int .i64 ((k : Int) + 1))); clear h2 h3))
      go_ret2
      exact ⟨k, hk1, hk2, HALL.out, HU0.out.symm, rfl, rf_shut H3.out⟩
    · have hlt := HNN.out (by trivial)
      have g1 : lw ≤ k + 1 := Nat.le_succ_of_le hk1
      have g2 : k + 1 ≤ n := hlt
      have HG : Hid (∀ j : Nat, lw ≤ j → j < k + 1 → usedB R s n (j : Int) = true) := Lib.hid fun j h1 h2 => by
        rcases Nat.lt_or_ge j k with h3 | h3
        · exact HALL.out j h1 h3
        · have : j = k := Nat.le_antisymm (Nat.le_of_lt_succ h2) h3
          rw [this]
          exact HU0.out.symm
      go_wp2_with (go_at_call 51; refine (HUU.out).mono ?_; rintro e w1 ⟨rfl, q1, hw1⟩; have h2 : St S0 (RfA g K V (s : Int) R lv (lw : Int) :: l) w0 w1 := (by rw [hw1]; exact HST.out.drewN q1); have H2 := Lib.hid h2; clear hw1 h2)
      go_roundw
      case rel => exact ⟨k + 1, g1, g2, by go_num, HG.out, H2.out⟩
      case measure =>
        show n - (intOf (.int .i64 (wrap64 ((k : Int) + 1)))).toNat < n - (intOf (.int .i64 (k : Int))).toNat
        rw [hw]
        show n - ((k + 1 : Nat) : Int).toNat < n - ((k : Nat) : Int).toNat
        rw [Int.toNat_natCast, Int.toNat_natCast]
        exact Nat.sub_lt_sub_left hlt (Nat.lt_succ_self k)
end
end Go.Proofs.YtcclcecjidlojaaDoor
