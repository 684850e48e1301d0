/- The document's Check. -/
import Derived.Test.YthnaipgdjbaebaaGreatValCheck3
import Derived.Test.YthnaipgdjbaebaaGreatValPure
import Derived.Deep.Cut
import Derived.Deep.RegionHeld3
import Derived.Deep.RegionLaw
import Derived.BigRegion
import Derived.IntWalk
namespace Go.Proofs.YthnaipgdjbaebaaGreat
open Go.RowKit
set_option linter.unusedVariables false

set_option maxRecDepth 100000 in
set_option maxHeartbeats 2000000 in
theorem refCheck_no (v : Vv) (x : Value) (B : Nat) (w : World) (h : VR w B v x) (hB : B ≤ w.heap.size) (hno : gk v.k = false ∨ ownB v = false) :
    Calls Tryz.prog 64 #[x] w (Told (chk v) w) := by
  obtain ⟨A, c, A', c', rfl, h1, h2, h3⟩ := h
  have hk1 := h3.k1
  have hk2 := h3.k2
  have hn2 := h3.ns2
  have ht2 := h3.ts2
  have Hk := Lib.hid (@chk_kind v)
  have Hf := Lib.hid (@chk_field v)
  have hof := Lib.hid (@own_false v)
  obtain ⟨k, n, s, ns, ts⟩ := v
  unfold vagg
  simp only at hk1 hk2 hn2 ht2 Hk Hf hno hof ⊢
  obtain ⟨E, hE⟩ : ∃ E, E = chk ⟨k, n, s, ns, ts⟩ := ⟨_, rfl⟩
  rw [← hE] at Hk Hf ⊢
  clear h1 h2 h3 hE
  by_cases hg : gk k = true
  · have hkk : 1 ≤ k ∧ k ≤ 8 := by unfold gk at hg; exact of_decide_eq_true hg
    obtain ⟨g1, g2⟩ := hkk
    have hown : ownB ⟨k, n, s, ns, ts⟩ = false := hno.resolve_left (by rw [hg]; simp)
    have HF := Lib.hid (Hf.out hg hown)
    have HO := Lib.hid (hof.out hown)
    clear Hk Hf hof hno hg hown
    go_enter Tryz.func64, Tryz.ntmps64
    go_upto_region 5 with fail
    all_goals first
      | (exfalso; have hX := HO.out; clear HO HF; grind)
      | (go_wp2; go_ret; exact ⟨ret_int HF.out.symm, (Below.refl _ _).alloc (Nat.le_refl _) _⟩)
  · have hg : gk k = false := by simpa using hg
    have HF := Lib.hid (Hk.out hg)
    have hkk : ¬ (1 ≤ k ∧ k ≤ 8) := by unfold gk at hg; exact of_decide_eq_false hg
    clear Hk Hf hof hno hg
    by_cases g1 : k < 1
    · go_enter Tryz.func64, Tryz.ntmps64
      go_wp2
      go_ret
      exact ⟨ret_int HF.out.symm, (Below.refl _ _).alloc (Nat.le_refl _) _⟩
    · have g2 : 8 < k := by omega
      go_enter Tryz.func64, Tryz.ntmps64
      go_wp2
      go_ret
      exact ⟨ret_int HF.out.symm, (Below.refl _ _).alloc (Nat.le_refl _) _⟩

set_option maxRecDepth 100000 in
set_option maxHeartbeats 2000000 in
theorem refCheck_lo (v : Vv) (x : Value) (B : Nat) (w : World) (h : VR w B v x) (hB : B ≤ w.heap.size) (hk1 : 1 ≤ v.k) (hk2 : v.k < 4) (hown : ownB v = true) :
    Calls Tryz.prog 64 #[x] w (Told (chk v) w) := by
  obtain ⟨A, c, A', c', rfl, h1, h2, h3⟩ := h
  have hw := own_true hown
  have hns := hw.2.2.1 (.inl (by omega))
  have hts := hw.2.2.2 (by omega)
  have hs := hw.2.1 (by omega)
  rw [chk_el (gk_yes ⟨hk1, by omega⟩) hown (by rw [hns, hts]; simp), el_lo hk2]
  have hn1 := h3.n1
  have hn2 := h3.n2
  obtain ⟨k, n, s, ns, ts⟩ := v
  unfold vagg
  simp only at hk1 hk2 hns hts hs hn1 hn2 ⊢
  subst hns hts
  have hs2 : (!s.toList.isEmpty) = false := by rw [hs]; rfl
  by_cases hn0 : n = 0
  · subst hn0
    have HC := Lib.hid fun w => numWrong_any k 0 w hn1 hn2
    obtain ⟨E, hE⟩ : ∃ E, E = numW k 0 := ⟨_, rfl⟩
    rw [← hE] at HC ⊢
    clear h1 h2 h3 hown hw hE hn1 hn2
    go_enter Tryz.func64, Tryz.ntmps64
    go_wp2_with (go_at_call 89; refine (HC.out _).mono ?_; rintro e w' ⟨rfl, rfl⟩)
    go_ret
    exact ⟨rfl, (Below.refl _ _).alloc (Nat.le_refl _) _⟩
  · have HC := Lib.hid fun w => numWrong_any k n w hn1 hn2
    obtain ⟨E, hE⟩ : ∃ E, E = numW k n := ⟨_, rfl⟩
    rw [← hE] at HC ⊢
    have hb : (n != 0) = true := by simpa using hn0
    clear h1 h2 h3 hown hw hE hn1 hn2 hn0
    go_enter Tryz.func64, Tryz.ntmps64
    go_wp2_with (go_at_call 89; refine (HC.out _).mono ?_; rintro e w' ⟨rfl, rfl⟩)
    go_ret
    exact ⟨rfl, (Below.refl _ _).alloc (Nat.le_refl _) _⟩

set_option maxRecDepth 100000 in
set_option maxHeartbeats 2000000 in
theorem refCheck_four (v : Vv) (x : Value) (B : Nat) (w : World) (h : VR w B v x) (hB : B ≤ w.heap.size) (hk : v.k = 4) (hown : ownB v = true) :
    Calls Tryz.prog 64 #[x] w (Told (chk v) w) := by
  obtain ⟨A, c, A', c', rfl, h1, h2, h3⟩ := h
  have hw := own_true hown
  have hns := hw.2.2.1 (.inl (by omega))
  have hts := hw.2.2.2 (by omega)
  have hn := hw.1 (by omega)
  rw [chk_el (gk_yes ⟨by omega, by omega⟩) hown (by rw [hns, hts]; simp), el_four hk]
  have hsz := h3.s1
  obtain ⟨k, n, s, ns, ts⟩ := v
  unfold vagg
  simp only at hk hns hts hn hsz ⊢
  subst hns hts hn hk
  clear h1 h2 h3 hown hw
  unfold txtW
  by_cases hl : 1000 < s.size
  · rw [if_pos hl]
    go_enter Tryz.func64, Tryz.ntmps64
    go_wp2
    all_goals (go_ret; exact ⟨rfl, (Below.refl _ _).alloc (Nat.le_refl _) _⟩)
  · rw [if_neg hl]
    go_enter Tryz.func64, Tryz.ntmps64
    go_upto_region 11 with fail
    all_goals (
      go_wp2_with fail
      go_loop [3] (fun i => i = .int .i64 0) (fun _ => 0)
      case atStart => rfl
      case round =>
        subst hrel
        go_wp2_with fail
        go_loop [5] (fun i => i = .int .i64 0) (fun _ => 0)
        case atStart => rfl
        case round =>
          subst hrel
          go_wp2
          go_ret
          exact ⟨rfl, (Below.refl _ _).alloc (Nat.le_refl _) _⟩)

end Go.Proofs.YthnaipgdjbaebaaGreat
