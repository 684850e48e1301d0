/- recfile: the document's Alloc and Free. -/
import Derived.Test.YtcclcecjidlojaaDoorRfD2
namespace Go.Proofs.YtcclcecjidlojaaDoor
open Go.RowKit
set_option linter.unusedVariables false
set_option linter.unusedSimpArgs false
section
variable {S0 : Fp} {l : List Ass} {w0 w : World} {g : Nat} {K V S : Int} {L : List Rc}
theorem refUsed_st [Stable (Sep l)] (h : St S0 (DfA g K V S L :: l) w0 w) (hl : L.length ≤ 1099511627776) (id : Int) :
    Calls Tryd.prog 59 #[.pointer (some ⟨g, 0, none⟩), .int .i64 id] w fun e w' => e = .returned (.bool (usedL L id)) ∧ w = w' := by
  obtain ⟨A, cap, X, hm, hr⟩ := df_read h
  exact refUsed_any hr hm hl id
theorem refLive_st [Stable (Sep l)] (h : St S0 (DfA g K V S L :: l) w0 w) (hl : L.length ≤ 1099511627776) :
    Calls Tryd.prog 39 #[.pointer (some ⟨g, 0, none⟩)] w fun e w' => e = .returned (.int .i64 (liveL L L.length : Nat)) ∧ w = w' := by
  obtain ⟨A, cap, X, hm, hr⟩ := df_read h
  exact refLive_any hr hm hl
/-- what is read of record k -/
theorem df_at [Stable (Sep l)] (h : St S0 (DfA g K V S L :: l) w0 w) {k : Nat} (hk : k < L.length) : ∃ b off cap A c, w.cell? ⟨g, 3, none⟩ = some (.slice (some ⟨b, off, none⟩) L.length cap) ∧ w.cell? ⟨b, off + k * 2, none⟩ = some (.bool (nthD L k).used) ∧
    w.cell? ⟨b, off + k * 2 + 1, none⟩ = some (.slice A (nthD L k).data.length c) ∧ RB w w.heap.size A (nthD L k).data ∧ (nthD L k).data.length ≤ c ∧ c ≤ maxLen := by
  obtain ⟨A, cap, X, hm, hr⟩ := df_read h
  have hXl := mapLen hm
  obtain ⟨b, off, hA, hc⟩ := hr.at_ (by omega)
  subst hA
  obtain ⟨h1, h2⟩ := hc k (by omega)
  have hq := hr.2.2.2 (nthD X k) (by rw [nthD_lt (by omega)]; exact List.getElem_mem _)
  rw [nthD_map hm (by omega)] at h1 h2 hq
  have h3 := hr.1.2.2.2
  rw [hXl] at h3
  exact ⟨b, off, cap, (nthD X k).A, (nthD X k).c, h3, h1, h2, hq⟩
/-- its head, and how many records -/
theorem df_head [Stable (Sep l)] (h : St S0 (DfA g K V S L :: l) w0 w) : ∃ A cap, w.cell? ⟨g, 0, none⟩ = some (.int .i64 K) ∧ w.cell? ⟨g, 1, none⟩ = some (.int .i64 V) ∧ w.cell? ⟨g, 2, none⟩ = some (.int .i64 S) ∧ w.cell? ⟨g, 3, none⟩ = some (.slice A L.length cap) := by
  obtain ⟨A, cap, X, hm, hr⟩ := df_read h
  have hXl := mapLen hm
  obtain ⟨h0, h1, h2, h3⟩ := hr.1
  rw [hXl] at h3
  exact ⟨A, cap, h0, h1, h2, h3⟩
theorem usedL_ge {k : Nat} (h : L.length ≤ k) : usedL L (k : Int) = false := by
  unfold usedL
  rw [decide_eq_false (p := (k : Int) < (L.length : Int)) (by omega), Bool.and_false]
  rfl
set_option maxRecDepth 100000 in
set_option maxHeartbeats 800000 in
/-- Alloc: F is the least id that isn't in use -/
theorem refAlloc_ok [Stable (Sep l)] {s F : Nat} (h : St S0 (DfA g K V (s : Int) L :: l) w0 w) (hs : 2 ≤ s) (hs2 : s ≤ 255) (hL : L.length ≤ 65536) (hF : ∀ j : Nat, j < F → usedL L (j : Int) = true) (hno : usedL L (F : Int) = false) (hlt : F < 65536) :
    Calls Tryd.prog 54 #[.pointer (some ⟨g, 0, none⟩)] w fun e w' => e = .returned (.tuple #[.int .i64 (F : Int), .int .i64 0]) ∧ St S0 (DfA g K V (s : Int) (putL L s F (List.replicate (s - 1) 0)) :: l) w0 w' := by
  obtain ⟨z, hse⟩ : ∃ z, s = z + 1 := ⟨s - 1, by omega⟩
  have hz1 : s - 1 = z := by omega
  obtain ⟨A, cap, X, hm, hr⟩ := df_read h
  obtain ⟨-, -, c2, -⟩ := hr.1
  have HH := Lib.hid h
  have HU := fun id => refUsed_st h (by omega) id
  have HU := Lib.hid HU
  have s1 : (1 : Int) ≤ (s : Int) := by omega
  have hw : wrap64 ((s : Int) - 1) = (z : Int) := by rw [rfwrap (by omega) (by omega)]; omega
  have e1 : decide ((65536 : Int) ≤ (F : Int)) = false := decide_eq_false (by omega)
  have e2 : decide (65536 ≤ F) = false := decide_eq_false (by omega)
  have HZ : Hid (z ≤ 1000) := Lib.hid (by omega)
  have HP := Lib.hid (fun (w3 : World) (A3 : Option Addr) (c3 : Nat) (h3 : St S0 (DfA g K V (s : Int) L :: ObA 5 (.slice A3 z c3) (List.replicate z 0) :: l) w0 w3) => refPut_ok (id := F) (A' := A3) (cap' := c3) (D := List.replicate z 0) h3 hs hs2 hL hlt (by rw [List.length_replicate]; omega) fun L' w' h' => by
      have := h'.swap.ob.reads
      exact this.2.1)
  have HFF := Lib.hid hF
  have HNO := Lib.hid hno
  have HLT := Lib.hid hlt
  rw [hz1]
  clear h hs hs2 hL hF hno hlt hm hr hse hz1
  go_enter Tryd.func54, Tryd.ntmps54
  go_wp2
  go_loop [4] (fun i => ∃ k : Nat, k ≤ F ∧ i = .int .i64 k) (fun i => F - (intOf i).toNat)
  case atStart => exact ⟨0, Nat.zero_le _, rfl⟩
  case round =>
    obtain ⟨k, hk, rfl⟩ := hrel
    by_cases hkf : k < F
    · have hu := HU.out (k : Int)
      rw [HFF.out k hkf] at hu
      have HUK := Lib.hid hu
      have hkb : (k : Int) ≤ 65536 := by have := HLT.out; omega
      clear hu
      go_wp2_with (go_at_call 59; refine (HUK.out).mono ?_; rintro e w1 ⟨rfl, rfl⟩)
      go_round
      case rel => exact ⟨k + 1, hkf, by go_num⟩
      case measure => exact meas_lt hkf
    · obtain rfl : k = F := by omega
      have hu := HU.out (k : Int)
      rw [HNO.out] at hu
      have HUK := Lib.hid hu
      clear hu hk hkf
      go_wp2_with (first
        | (go_at_call 59; refine (HUK.out).mono ?_; rintro e w1 ⟨rfl, rfl⟩)
        | (go_at_call 60; refine (zeros_any z _ HZ.out).mono ?_; rintro e w3 ⟨v3, rfl, ho3, hb3⟩; obtain ⟨A3, c3, hv3, -, -, -, -⟩ := ho3.form; rw [List.length_replicate] at hv3; subst hv3; have hp := HP.out _ _ _ (HH.out.newOb ho3 hb3).swap; rw [List.length_replicate] at hp; have HP3 := Lib.hid hp; clear ho3 hb3 hp)
        | (go_at_call 34; refine (HP3.out).mono ?_; rintro e w4 ⟨rfl, h4⟩; have H4 := Lib.hid h4; clear h4))
      go_ret2
      exact ⟨rfl, H4.out.swap.drop⟩
set_option maxRecDepth 100000 in
set_option maxHeartbeats 800000 in
theorem refAlloc_full [Stable (Sep l)] (h : St S0 (DfA g K V S L :: l) w0 w) (hL : L.length ≤ 65536) (hF : ∀ j : Nat, j < 65536 → usedL L (j : Int) = true) :
    Calls Tryd.prog 54 #[.pointer (some ⟨g, 0, none⟩)] w fun e w' => e = .returned (.tuple #[.int .i64 0, .int .i64 5]) ∧ w = w' := by
  have HU := Lib.hid (fun id => refUsed_st h (by omega) id)
  have HFF := Lib.hid hF
  have HNO := Lib.hid (usedL_ge (k := 65536) hL)
  clear h hL hF
  go_enter Tryd.func54, Tryd.ntmps54
  go_wp2
  go_loop [4] (fun i => ∃ k : Nat, k ≤ 65536 ∧ i = .int .i64 k) (fun i => 65536 - (intOf i).toNat)
  case atStart => exact ⟨0, Nat.zero_le _, rfl⟩
  case round =>
    obtain ⟨k, hk, rfl⟩ := hrel
    by_cases hkf : k < 65536
    · have hu := HU.out (k : Int)
      rw [HFF.out k hkf] at hu
      have HUK := Lib.hid hu
      have hkb : (k : Int) ≤ 65536 := by omega
      clear hu
      go_wp2_with (go_at_call 59; refine (HUK.out).mono ?_; rintro e w1 ⟨rfl, rfl⟩)
      go_round
      case rel => exact ⟨k + 1, hkf, by go_num⟩
      case measure => exact meas_lt hkf
    · obtain rfl : k = 65536 := by omega
      have HUK : Hid (Calls _ _ _ _ _) := HU.out ((65536 : Nat) : Int)
      rw [HNO.out] at HUK
      clear hk hkf
      go_wp2_with (go_at_call 59; refine (HUK.out).mono ?_; rintro e w1 ⟨rfl, rfl⟩)
      go_ret2
      exact ⟨rfl, rfl⟩
set_option maxHeartbeats 400000 in
theorem refFree_no [Stable (Sep l)] (h : St S0 (DfA g K V S L :: l) w0 w) (hL : L.length ≤ 65536) {id : Int} (hu : usedL L id = false) :
    Calls Tryd.prog 33 #[.pointer (some ⟨g, 0, none⟩), .int .i64 id] w fun e w' => e = .returned (.int .i64 3) ∧ w = w' := by
  have hx := refUsed_st h (by omega) id
  rw [hu] at hx
  have HU := Lib.hid hx
  clear h hL hu hx
  go_enter Tryd.func33, Tryd.ntmps33
  go_wp2_with (go_at_call 59; refine (HU.out).mono ?_; rintro e w1 ⟨rfl, rfl⟩)
  go_ret
  exact ⟨rfl, rfl⟩
set_option maxRecDepth 100000 in
set_option maxHeartbeats 1000000 in
theorem refFree_ok [Stable (Sep l)] {s id : Nat} (h : St S0 (DfA g K V (s : Int) L :: l) w0 w) (hs : 2 ≤ s) (hs2 : s ≤ 255) (hL : L.length ≤ 65536) (hu : usedL L (id : Int) = true) :
    Calls Tryd.prog 33 #[.pointer (some ⟨g, 0, none⟩), .int .i64 (id : Int)] w fun e w' => e = .returned (.int .i64 0) ∧ St S0 (DfA g K V (s : Int) (freeL L s id) :: l) w0 w' := by
  obtain ⟨z, hse⟩ : ∃ z, s = z + 1 := ⟨s - 1, by omega⟩
  have hx := refUsed_st h (by omega) (id : Int)
  rw [hu] at hx
  have HU := Lib.hid hx
  obtain ⟨k, hk, hkl, -⟩ := usedL_nat hu
  obtain rfl : id = k := by omega
  obtain ⟨v, X, hm, h1⟩ := df_open h
  obtain ⟨A, cap, rfl, hr⟩ := df_readX h1
  have hXl := mapLen hm
  obtain ⟨-, -, c2, c3⟩ := hr.1
  obtain ⟨n, hn⟩ : ∃ n, n = X.length := ⟨_, rfl⟩
  rw [← hn] at c3 h1
  have hids : id < n := by omega
  obtain ⟨b, hA, -⟩ := h1.swap.storeRow rcF_row hn.symm hids default
  subst hA
  have HM := Lib.hid hm
  have HIDN : Hid (id < X.length) := Lib.hid (by omega)
  have HN : Hid (X.length = n) := Lib.hid hn.symm
  have H1d := Lib.hid h1.drew
  have HWI := Lib.hid (show IntKind.i64.wrap ((s : Int) - 1) = (z : Int) by rw [IntKind.wrap_i64]; omega)
  have HOFF : Hid (offR s = ⟨false, List.replicate z 0⟩) := Lib.hid (by unfold offR; rw [show s - 1 = z by omega])
  have HZB : Hid (z ≤ 1000) := Lib.hid (by omega)
  have HC2 := Lib.hid fun (w' : World) (h' : St S0 (DfA g K V (s : Int) (L.set id ⟨false, List.replicate z 0⟩) :: l) w0 w') => by
    obtain ⟨A, cap, X, _, hr⟩ := df_read h'
    exact hr.1.2.2.1
  clear h hs hs2 hL hu hx hk hkl h1 hr hXl hn hm hse
  go_enter Tryd.func33, Tryd.ntmps33
  go_upto_region 3 with (go_at_call 59; refine (HU.out).mono ?_; rintro e w1 ⟨rfl, rfl⟩)
  have hwi := HWI.out
  refine wp_region_held_drew (S := (fun w' => w'.cell? ⟨g, 2, none⟩ = some (.int .i64 (s : Int)) ∧ w'.cell? ⟨g, 3, none⟩ = some (.slice (some ⟨b, 0, none⟩) n cap))) (by kernel_rfl) (by (try dsimp only); go_keep) (fun hHeld => ?_)
  refine wpAnyH_take (i := 0) (v := ?_) rfl (by kernel_rfl) (by kernel_rfl) (by kernel_rfl) (fun _ _ _ h => h) (Or.inl ⟨by rfl, ?_⟩) (by assumption) ?_
  rotate_left
  · (intro w hSw; (try dsimp only at hSw); go_simp; try with_reducible rfl)
  try simp only [Act.put, List.getElem_toArray, List.getElem_cons_zero, List.getElem_cons_succ, List.setIfInBounds_toArray, List.set_cons_zero, List.set_cons_succ]
  refine wpAnyH_take (i := 1) (v := ?_) rfl (by kernel_rfl) (by kernel_rfl) (by kernel_rfl) (fun _ _ _ h => h) (Or.inl ⟨by rfl, ?_⟩) (by assumption) ?_
  rotate_left
  · (intro w hSw; (try dsimp only at hSw); go_simp; try with_reducible rfl)
  try simp only [Act.put, List.getElem_toArray, List.getElem_cons_zero, List.getElem_cons_succ, List.setIfInBounds_toArray, List.set_cons_zero, List.set_cons_succ]
  refine wpAnyH_take (i := 2) (v := ?_) rfl (by kernel_rfl) (by kernel_rfl) (by kernel_rfl) (fun _ _ _ h => h) (Or.inl ⟨by rfl, ?_⟩) (by assumption) ?_
  rotate_left
  · (intro w hSw; (try dsimp only at hSw); go_simp; try with_reducible rfl)
  try simp only [Act.put, List.getElem_toArray, List.getElem_cons_zero, List.getElem_cons_succ, List.setIfInBounds_toArray, List.set_cons_zero, List.set_cons_succ]
  refine wpAnyH_take (i := 3) (v := ?_) rfl (by kernel_rfl) (by kernel_rfl) (by kernel_rfl) (fun _ _ _ h => h) (Or.inl ⟨by rfl, ?_⟩) (by assumption) ?_
  rotate_left
  · (intro w hSw; (try dsimp only at hSw); go_simp; try with_reducible rfl)
  try simp only [Act.put, List.getElem_toArray, List.getElem_cons_zero, List.getElem_cons_succ, List.setIfInBounds_toArray, List.set_cons_zero, List.set_cons_succ]
  refine wpAnyH_take (i := 4) (v := ?_) rfl (by kernel_rfl) (by kernel_rfl) (by kernel_rfl) (fun _ _ _ h => h) (Or.inl ⟨by rfl, ?_⟩) (by assumption) ?_
  rotate_left
  · (intro w hSw; (try dsimp only at hSw); go_simp; try with_reducible rfl)
  try simp only [Act.put, List.getElem_toArray, List.getElem_cons_zero, List.getElem_cons_succ, List.setIfInBounds_toArray, List.set_cons_zero, List.set_cons_succ]
  refine wpAnyH_take (i := 5) (v := ?_) rfl (by kernel_rfl) (by kernel_rfl) (by kernel_rfl) (fun _ _ _ h => h) (Or.inl ⟨by rfl, ?_⟩) (by assumption) ?_
  rotate_left
  · (intro w hSw; (try dsimp only at hSw); go_simp; try with_reducible rfl)
  try simp only [Act.put, List.getElem_toArray, List.getElem_cons_zero, List.getElem_cons_succ, List.setIfInBounds_toArray, List.set_cons_zero, List.set_cons_succ]
  refine wpAnyH_take (i := 6) (v := ?_) rfl (by kernel_rfl) (by kernel_rfl) (by kernel_rfl) (fun _ _ _ h => h) (Or.inl ⟨by rfl, ?_⟩) (by assumption) ?_
  rotate_left
  · (intro w hSw; (try dsimp only at hSw); go_simp; try with_reducible rfl)
  try simp only [Act.put, List.getElem_toArray, List.getElem_cons_zero, List.getElem_cons_succ, List.setIfInBounds_toArray, List.set_cons_zero, List.set_cons_succ]
  refine wpAnyH_take (i := 7) (v := ?_) rfl (by kernel_rfl) (by kernel_rfl) (by kernel_rfl) (fun _ _ _ h => h) (Or.inl ⟨by rfl, ?_⟩) (by assumption) ?_
  rotate_left
  · (intro w hSw; (try dsimp only at hSw); go_simp; try with_reducible rfl)
  try simp only [Act.put, List.getElem_toArray, List.getElem_cons_zero, List.getElem_cons_succ, List.setIfInBounds_toArray, List.set_cons_zero, List.set_cons_succ]
  refine wpAnyH_take (i := 8) (v := ?_) rfl (by kernel_rfl) (by kernel_rfl) (by kernel_rfl) (fun _ _ _ h => h) (Or.inl ⟨by rfl, ?_⟩) (by assumption) ?_
  rotate_left
  · (intro w hSw; (try dsimp only at hSw); go_simp; try with_reducible rfl)
  try simp only [Act.put, List.getElem_toArray, List.getElem_cons_zero, List.getElem_cons_succ, List.setIfInBounds_toArray, List.set_cons_zero, List.set_cons_succ]
  refine wpAnyH_take (i := 9) (v := ?_) rfl (by kernel_rfl) (by kernel_rfl) (by kernel_rfl) (fun _ _ _ h => h) (Or.inl ⟨by rfl, ?_⟩) (by assumption) ?_
  rotate_left
  · (intro w hSw; (try dsimp only at hSw); go_simp; try with_reducible rfl)
  try simp only [Act.put, List.getElem_toArray, List.getElem_cons_zero, List.getElem_cons_succ, List.setIfInBounds_toArray, List.set_cons_zero, List.set_cons_succ]
  refine wpAnyH_ready (rs := [10]) (by kernel_rfl) (by simp) ?_
  refine AllReadyH.cons rfl (fun K hK => ?_) AllReadyH.nil
  go_simp
  go_at_call 60
  refine (zeros_any z _ HZB.out).mono ?_
  rintro e w3 ⟨v3, rfl, ho3, hb3⟩
  obtain ⟨A3, c3, hv3, -, -, -, -⟩ := ho3.form
  rw [List.length_replicate] at hv3
  subst hv3
  have H3 := Lib.hid (H1d.out.newOb ho3 hb3)
  obtain ⟨-, -, y2, y3⟩ := df_cells H3.out.swap
  clear ho3 hb3
  refine hK.out _ _ (by (try dsimp only); go_keep) (fun hHeld => ?_)
  clear hK K
  try simp only [Act.put, List.getElem_toArray, List.getElem_cons_zero, List.getElem_cons_succ, List.setIfInBounds_toArray, List.set_cons_zero, List.set_cons_succ]
  refine wpAnyH_take (i := 11) (v := ?_) rfl (by kernel_rfl) (by kernel_rfl) (by kernel_rfl) (fun _ _ _ h => h) (Or.inl ⟨by rfl, ?_⟩) (by assumption) ?_
  rotate_left
  · (intro w hSw; (try dsimp only at hSw); go_simp; try with_reducible rfl)
  try simp only [Act.put, List.getElem_toArray, List.getElem_cons_zero, List.getElem_cons_succ, List.setIfInBounds_toArray, List.set_cons_zero, List.set_cons_succ]
  refine wpAnyH_take (i := 12) (v := ?_) rfl (by kernel_rfl) (by kernel_rfl) (by kernel_rfl) (fun _ _ _ h => h) (Or.inl ⟨by rfl, ?_⟩) (by assumption) ?_
  rotate_left
  · (intro w hSw; (try dsimp only at hSw); go_simp; try with_reducible rfl)
  try simp only [Act.put, List.getElem_toArray, List.getElem_cons_zero, List.getElem_cons_succ, List.setIfInBounds_toArray, List.set_cons_zero, List.set_cons_succ]
  refine wpAnyH_ready (rs := [13]) (by kernel_rfl) (by simp) ?_
  refine AllReadyH.cons rfl (fun K hK => ?_) AllReadyH.nil
  have hz3 := H3.out
  rw [show St S0 (ObA 5 (.slice A3 z c3) (List.replicate z 0) :: _) w0 w3 = St S0 (ObA 5 (.slice A3 (List.replicate z 0).length c3) (List.replicate z 0) :: _) w0 w3 by rw [List.length_replicate]] at hz3
  obtain ⟨b', hb', hth, hset, y9⟩ := setDf (u := false) HM.out HIDN.out hz3 HN.out
  rw [List.length_replicate] at hset y9
  obtain rfl : b = b' := by injection hb' with h; injection h
  have HSET := Lib.hid hset
  have y8 := HC2.out _ HSET.out
  refine step_store_mid (by rfl) 82 _ _ (by rfl) b (id * 2) #[.bool false, .slice A3 z c3] (by rfl) (by rfl) hth rec_size (by rw [← Array.all_toList]; rfl) ?_
  clear hb' hth hset hz3
  refine hK.out _ _ (by (try dsimp only); go_keep) (fun hHeld => ?_)
  clear hK K
  try simp only [Act.put, List.getElem_toArray, List.getElem_cons_zero, List.getElem_cons_succ, List.setIfInBounds_toArray, List.set_cons_zero, List.set_cons_succ]
  refine wpAnyH_done (by kernel_rfl) ?_ _
  clear c2 hwi
  go_wp2
  go_ret
  exact ⟨rfl, by unfold freeL; rw [HOFF.out]; exact HSET.out⟩

end
end Go.Proofs.YtcclcecjidlojaaDoor
