/- recfile: Put. -/
import Derived.Test.YtcclcecjidlojaaDoorRf3
import Derived.Test.YtcclcecjidlojaaDoorLayB
namespace Go.Proofs.YtcclcecjidlojaaDoor
open Go.RowKit
set_option linter.unusedVariables false
section
variable {S0 : Fp} {l : List Ass} {w0 w : World} {g : Nat} {K V S : Int} {R : List Nat} {lv lo : Int}

def putErr (s : Nat) (id : Int) (m : Nat) : Int := if id < 0 ∨ 65536 ≤ id then 3 else if m + 1 = s then 0 else 4
/-- the records, one of them in use -/
def takenR (R : List Nat) (s n id : Nat) : List Nat := if usedB R s n id = true then R else (growR R (id * s + s)).set (id * s) 1
def takenL (R : List Nat) (s n id : Nat) (lv : Int) : Int := if usedB R s n id = true then lv else lv + 1
theorem usedB_lt {s n id : Nat} (h : usedB R s n (id : Int) = true) : id < n := by
  unfold usedB at h
  simp only [Bool.and_eq_true, decide_eq_true_eq] at h
  omega
theorem takenR_len {s n id : Nat} (hR : R.length = n * s) : (takenR R s n id).length = max R.length (id * s + s) := by
  unfold takenR
  split
  · rename_i h
    have h1 := usedB_lt h
    have h2 : id * s + s ≤ R.length := by rw [hR, ← Nat.succ_mul]; exact Nat.mul_le_mul_right _ h1
    exact (Nat.max_eq_left h2).symm
  · rw [List.length_set, growR_len]
theorem rec_ends {id s : Nat} (hid : id < 65536) (hs : s ≤ 255) : id * s + s ≤ 1099511627776 := by
  have : id * s ≤ 65536 * 255 := Nat.mul_le_mul (by omega) hs
  omega
set_option maxHeartbeats 400000 in
theorem rfPut_err {s : Nat} {id : Int} {A' : Option Addr} {m cap' : Nat} (h : St S0 (RfA g K V (s : Int) R lv lo :: l) w0 w) (hs : 2 ≤ s) (hs2 : s ≤ 255) (he : putErr s id m ≠ 0) :
    Calls Tryd.prog 23 #[.pointer (some ⟨g, 0, none⟩), .int .i64 id, .slice A' m cap'] w fun e w' => e = .returned (.int .i64 (putErr s id m)) ∧ w = w' := by
  obtain ⟨v, h1⟩ := rf_open h
  obtain ⟨c0, c1, c2, c3, c4, c5⟩ := rf_cells h1
  unfold putErr at he ⊢
  by_cases h0 : id < 0
  · rw [if_pos (.inl h0)]
    have e0 : decide (id < 0) = true := decide_eq_true h0
    clear he h h1 hs hs2 h0 c0 c1 c3 c4 c5
    go_enter Tryd.func23, Tryd.ntmps23
    go_wp2
    go_ret
    exact ⟨rfl, rfl⟩
  · by_cases h2 : 65536 ≤ id
    · rw [if_pos (.inr h2)]
      have e0 : decide (id < 0) = false := decide_eq_false h0
      have e1 : decide (65536 ≤ id) = true := decide_eq_true h2
      clear he h h1 hs hs2 h0 h2 c0 c1 c3 c4 c5
      go_enter Tryd.func23, Tryd.ntmps23
      go_wp2
      go_ret
      exact ⟨rfl, rfl⟩
    · have hno : ¬ (id < 0 ∨ 65536 ≤ id) := by omega
      rw [if_neg hno] at he ⊢
      by_cases h3 : m + 1 = s
      · rw [if_pos h3] at he
        exact absurd rfl he
      · rw [if_neg h3]
        have e0 : decide (id < 0) = false := decide_eq_false h0
        have e1 : decide (65536 ≤ id) = false := decide_eq_false h2
        obtain ⟨y, hy⟩ : ∃ y : Int, (s : Int) - 1 = y := ⟨_, rfl⟩
        have hw : wrap64 y = y := rfwrap (by omega) (by omega)
        have e2 : ((m : Int) != y) = true := by
          have : (m : Int) ≠ y := by omega
          simp [this]
        clear he h h1 hs hs2 h0 h2 h3 hno c0 c1 c3 c4 c5
        go_enter Tryd.func23, Tryd.ntmps23
        go_wp2
        go_ret
        exact ⟨rfl, rfl⟩
set_option maxRecDepth 100000 in
set_option maxHeartbeats 800000 in
theorem rfPut_ok [Stable (Sep l)] {s n id : Nat} {A' : Option Addr} {cap' B : Nat} {D : List Nat} (h : St S0 (RfA g K V (s : Int) R lv lo :: l) w0 w) (hs : 2 ≤ s) (hs2 : s ≤ 255) (hR : R.length = n * s) (hn : n ≤ 65536) (hid : id < 65536) (hlv : 0 ≤ lv) (hlv2 : lv ≤ 1099511627776)
    (hD : RB w B A' D) (hB : B ≤ w.heap.size) (hDl : D.length + 1 = s) (hDo : ∀ w', St S0 (RfA g K V (s : Int) (takenR R s n id) (takenL R s n id lv) lo :: l) w0 w' → RB w' w'.heap.size A' D) :
    Calls Tryd.prog 23 #[.pointer (some ⟨g, 0, none⟩), .int .i64 (id : Int), .slice A' D.length cap'] w fun e w' => e = .returned (.int .i64 0) ∧ St S0 (RfA g K V (s : Int) (layB (takenR R s n id) (id * s + 1) D) (takenL R s n id lv) lo :: l) w0 w' := by
  obtain ⟨v, h1⟩ := rf_open h
  obtain ⟨c0, c1, c2, c3, c4, c5⟩ := rf_cells h1
  obtain ⟨A, cap, hr⟩ := rf_read h
  have hRm : R.length ≤ 1099511627776 := by
    have : n * s ≤ 65536 * 255 := Nat.mul_le_mul hn hs2
    omega
  have hU := rfUsed_any hr (by omega) hR hRm (id : Int)
  have hzm := rec_ends hid hs2
  have hT := fun (w' : World) (h' : St S0 (RfA g K V (s : Int) R lv lo :: l) w0 w') => rfTake_any h' (k := id * s) (z := id * s + s) rfl rfl (by omega) hRm hzm hlv hlv2
  have htl := takenR_len (id := id) hR
  have ht1 : usedB R s n (id : Int) = true → takenR R s n id = R ∧ takenL R s n id lv = lv := fun h => ⟨if_pos h, if_pos h⟩
  have ht2 : usedB R s n (id : Int) = false → takenR R s n id = (growR R (id * s + s)).set (id * s) 1 ∧ takenL R s n id lv = lv + 1 := fun h => ⟨if_neg (by rw [h]; decide), if_neg (by rw [h]; decide)⟩
  obtain ⟨u, hu⟩ : ∃ u, u = usedB R s n (id : Int) := ⟨_, rfl⟩
  obtain ⟨Z, hZ⟩ : ∃ Z, Z = takenR R s n id := ⟨_, rfl⟩
  obtain ⟨m, hm⟩ : ∃ m, m = takenL R s n id lv := ⟨_, rfl⟩
  rw [← hu] at hU ht1 ht2
  rw [← hZ] at htl ht1 ht2 hDo ⊢
  rw [← hm] at ht1 ht2 hDo ⊢
  obtain ⟨k, hk⟩ : ∃ k, k = id * s := ⟨_, rfl⟩
  rw [← hk] at htl hT hzm ht2 ⊢
  have hle : k + s ≤ Z.length := by rw [htl]; exact Nat.le_max_right _ _
  have hZm : Z.length ≤ 1099511627776 := by rw [htl]; exact Nat.max_le.2 ⟨hRm, hzm⟩
  have hdb := hD.1
  have hw : wrap64 ((s : Int) - 1) = (D.length : Int) := by rw [rfwrap (by omega) (by omega)]; omega
  have e0 : decide ((id : Int) < 0) = false := decide_eq_false (by omega)
  have e1 : decide ((65536 : Int) ≤ (id : Int)) = false := decide_eq_false (by omega)
  have e1' : decide (65536 ≤ id) = false := decide_eq_false (by omega)
  have s1 : (1 : Int) ≤ (s : Int) := by omega
  have s2 : s - 1 = D.length := by omega
  have s3 : 0 < D.length := by omega
  have HH := Lib.hid h
  have HU := Lib.hid hU
  have HT := Lib.hid hT
  have HT1 := Lib.hid ht1
  have HT2 := Lib.hid ht2
  have HDO := Lib.hid hDo
  have HK := Lib.hid hk
  have HLE := Lib.hid hle
  have HZM := Lib.hid hZm
  have HDB := Lib.hid hdb
  have HS := Lib.hid hs
  have HDL := Lib.hid hDl
  clear h h1 hr hU hT htl ht1 ht2 hDo hk hle hZm hdb hRm hzm hR hn hlv hlv2 hid hs2 hD hB hu hZ hm hs hDl
  go_enter Tryd.func23, Tryd.ntmps23
  go_upto_if 24 with (go_at_call 51; refine (HU.out).mono ?_; rintro e w1 ⟨rfl, q1, hw1⟩; have hq := HH.out.drewN q1; rw [← hw1] at hq; have HQ := Lib.hid hq; clear hw1 hq)
  go_cut [] from 25 (fun w' => St S0 (RfA g K V (s : Int) Z m lo :: l) w0 w')
  case first =>
    cases u
    · go_wp2_with (go_at_call 56; refine (HT.out _ HQ.out).mono ?_; rintro e w2 ⟨rfl, h2⟩; have H2 := Lib.hid h2; clear h2)
      go_meet
      rw [(HT2.out (by trivial)).1, (HT2.out (by trivial)).2]
      exact H2.out
    · go_wp2
      go_meet
      rw [(HT1.out (by trivial)).1, (HT1.out (by trivial)).2]
      exact HQ.out
  case rest =>
    have HC := Lib.hid hcut
    obtain ⟨A9, c9, hr9⟩ := rf_read hcut
    obtain ⟨v9, hv⟩ := rf_open hcut
    have h39 := hr9.2.1
    rw [(rf_cells hv).2.2.2.1] at h39
    simp only [Option.some.injEq] at h39
    subst h39
    have hkl : k < Z.length := by have := HLE.out; omega
    obtain ⟨g8, hA8, -⟩ := hv.swap.storeObB rfl hkl 1 (by decide)
    subst hA8
    have hcap : Z.length ≤ c9 := hr9.2.2.2.2.2.1
    have q0 : c9 - k ≠ 1 := by have h1 := HLE.out; have h2 := HS.out; omega
    have q1 : 1 ≠ c9 - k := fun e => q0 e.symm
    have q2 : 1 < c9 - k := by have h1 := HLE.out; have h2 := HS.out; omega
    clear hcap
    have HR9 := Lib.hid hr9
    have HV := Lib.hid hv
    have hsrc := HDO.out _ hcut
    have HSRC := Lib.hid hsrc
    clear hv hr9 hkl hcut hsrc HQ HH HU HT HT1 HT2 HDO
    go_wp2_with (first
      | (go_at_call 57; refine (rfRecord_any HR9.out HK.out HLE.out (by omega) HZM.out).mono ?_; rintro e w2 ⟨rfl, q2, hw2⟩; have hv2 := HV.out.drewN q2; rw [← hw2] at hv2; have hs2 : RB w2 w2.heap.size A' D := (by rw [hw2]; exact HSRC.out); obtain ⟨vc, hcp⟩ := run_copy_layB (P := Tryd.prog) hv2.swap rfl 34 34 3 Tryd.underlying34 (by kernel_rfl) (k + 1) (c9 - k - 1) A' cap' _ D hs2 s3 (by have h1 := HLE.out; have h2 := HDL.out; omega); have HST := Lib.hid (hv2.swap.layB rfl (k + 1) D HDB.out); clear hw2 hv2 hs2))
    go_ret
    exact ⟨rfl, rf_shut HST.out.swap⟩
end
end Go.Proofs.YtcclcecjidlojaaDoor
