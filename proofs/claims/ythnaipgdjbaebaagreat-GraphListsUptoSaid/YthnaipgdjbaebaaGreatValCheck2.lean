/- Check of the program and of the document, whole. -/
import Derived.Test.YthnaipgdjbaebaaGreatValCheck
import Derived.RegionTactic
import Derived.LoopTactic
namespace Go.Proofs.YthnaipgdjbaebaaGreat
open Go.RowKit
set_option linter.unusedVariables false

set_option maxRecDepth 100000 in
set_option maxHeartbeats 1000000 in
theorem checkElements_any (v : Vv) (x : Value) (B : Nat) (w : World) (h : VR w B v x) (hB : B ≤ w.heap.size) (hk1 : 1 ≤ v.k) (hk2 : v.k ≤ 8) :
    Calls Tryz.prog 137 #[x] w fun e w' => e = .returned (.int .i64 (el v)) ∧ Below w.heap.size w w' := by
  obtain ⟨A, c, A', c', rfl, h1, h2, h3⟩ := h
  have hN := numsOf_ok h3
  have hT := txtsOf_ok h3
  have HE1 := Lib.hid (@el_num v)
  have HE2 := Lib.hid (@el_txt v)
  obtain ⟨k, n, s, ns, ts⟩ := v
  simp only at hk1 hk2
  have hV : VR w B ⟨k, n, s, ns, ts⟩ (.agg #[.int .i64 k, .int .i64 n, .string s, .slice A ns.length c, .slice A' ts.length c']) := ⟨A, c, A', c', rfl, h1, h2, h3⟩
  unfold vagg
  simp only at HE1 HE2 ⊢
  obtain ⟨L, hL⟩ : ∃ L, L = numsOf ⟨k, n, s, ns, ts⟩ := ⟨_, rfl⟩
  obtain ⟨M, hM⟩ : ∃ M, M = txtsOf ⟨k, n, s, ns, ts⟩ := ⟨_, rfl⟩
  rw [← hL] at hN HE1 HE2
  rw [← hM] at hT HE2
  have HL := Lib.hid hL
  have HM := Lib.hid hM
  have hLl := hN.2
  have hMl := hT.2
  have HN := Lib.hid hN.1
  have HT := Lib.hid hT.1
  obtain ⟨E, hE⟩ : ∃ E, E = el ⟨k, n, s, ns, ts⟩ := ⟨_, rfl⟩
  rw [← hE] at HE1 HE2 ⊢
  clear h1 h2 h3 hL hM hN hT hE
  go_enter Tryz.func137, Tryz.ntmps137
  go_wp2_with fail
  obtain ⟨wo, hwo⟩ : ∃ x, x = w.alloc (.cells #[.int .i64 k, .int .i64 n, .string s, .slice A ns.length c, .slice A' ts.length c'] 43) := ⟨_, rfl⟩
  rw [← hwo]
  have hVo : VR wo B ⟨k, n, s, ns, ts⟩ (.agg #[.int .i64 k, .int .i64 n, .string s, .slice A ns.length c, .slice A' ts.length c']) := by subst hwo; exact hV.alloc hB _
  have hb0 : Below w.heap.size w wo := by subst hwo; exact (Below.refl _ _).alloc (Nat.le_refl _) _
  have Bo : Blk wo w.heap.size 43 #[.int .i64 k, .int .i64 n, .string s, .slice A ns.length c, .slice A' ts.length c'] := by subst hwo; exact Blk.new _ _ _
  have hso := hb0.size
  clear hwo hV
  refine (numbers_any _ _ B wo hVo (by omega)).mono ?_
  rintro e w1 ⟨A1, c1, rfl, r1, -, b1⟩
  rw [← HL.out] at r1 ⊢
  have hV1 := hVo.below (b1.mono (show B ≤ wo.heap.size by omega))
  have B1 := Bo.below b1 Bo.lt
  have hb1 := hb0.trans (b1.mono hb0.size)
  have q0 : w1.cell? ⟨w.heap.size, 0, none⟩ = some (.int .i64 k) := by rw [B1.cell 0]; rfl
  have q1 : w1.cell? ⟨w.heap.size, 1, none⟩ = some (.int .i64 n) := by rw [B1.cell 1]; rfl
  have q2 : w1.cell? ⟨w.heap.size, 2, none⟩ = some (.string s) := by rw [B1.cell 2]; rfl
  have q3 : w1.cell? ⟨w.heap.size, 3, none⟩ = some (.slice A ns.length c) := by rw [B1.cell 3]; rfl
  have q4 : w1.cell? ⟨w.heap.size, 4, none⟩ = some (.slice A' ts.length c') := by rw [B1.cell 4]; rfl
  have hs1 := hb1.size
  clear hVo Bo B1 b1 hb0
  go_wp2_with fail
  go_loop [12] (fun i => ∃ j : Nat, j ≤ L.length ∧ i = .int .i64 j ∧ fe (numW (elK k)) (L.take j) = 0) (fun i => L.length - (intOf i).toNat)
  case atStart => exact ⟨0, Nat.zero_le _, rfl, rfl⟩
  case round =>
    obtain ⟨j, hj, rfl, hz⟩ := hrel
    by_cases hlt : j < L.length
    · obtain ⟨b, off, rfl, -, hc⟩ := r1.allI (by omega)
      have q := hc j hlt
      have hst := feI_step hlt hz
      have hft := fe_take (numW (elK k)) L (j + 1)
      have hr := HN.out (nthI L j) (by rw [nthI_lt hlt]; exact List.getElem_mem hlt)
      have HC := Lib.hid (checkNumber_any (elK k) (nthI L j) w1 hr.1 hr.2)
      obtain ⟨z, hzz⟩ : ∃ z, z = numW (elK k) (nthI L j) := ⟨_, rfl⟩
      rw [← hzz] at HC hst
      by_cases h0 : z = 0
      · subst h0
        have Hst := Lib.hid hst
        clear hst hft hc hz hzz hr
        go_wp2_with (first | (go_at_call 109; refine (elementKind_any _ _ hk1 hk2).mono ?_; rintro e w' ⟨rfl, rfl⟩) | (go_at_call 151; refine (HC.out).mono ?_; rintro e w' ⟨rfl, rfl⟩))
        go_round
        case rel => exact ⟨j + 1, by omega, by go_num, Hst.out⟩
        case measure => simp [intOf]; omega
      · have hb : (z != 0) = true := by simpa using h0
        have HF : Hid (E = z) := Lib.hid (by
          have h5 : fe (numW (elK k)) L = z := by rw [hft (by rw [hst]; exact h0), hst]
          have := HE1.out (by rw [h5]; exact h0)
          rw [this, h5])
        clear hst hft hc hz hzz h0 hr
        go_wp2_with (first | (go_at_call 109; refine (elementKind_any _ _ hk1 hk2).mono ?_; rintro e w' ⟨rfl, rfl⟩) | (go_at_call 151; refine (HC.out).mono ?_; rintro e w' ⟨rfl, rfl⟩))
        go_ret
        exact ⟨ret_int HF.out.symm, hb1⟩
    · obtain rfl : j = L.length := by omega
      rw [List.take_length] at hz
      have HZ := Lib.hid (HE2.out hz)
      clear hz
      go_wp2_with fail
      refine (texts_any _ _ B w1 hV1 (by omega)).mono ?_
      rintro e w2 ⟨A2, c2, rfl, r2, -, b2⟩
      rw [← HM.out] at r2 ⊢
      have hb2 := hb1.trans (b2.mono hb1.size)
      clear b2
      go_wp2_with fail
      go_loop [28] (fun i => ∃ j : Nat, j ≤ M.length ∧ i = .int .i64 j ∧ fe txtW (M.take j) = 0) (fun i => M.length - (intOf i).toNat)
      case atStart => exact ⟨0, Nat.zero_le _, rfl, rfl⟩
      case round =>
        obtain ⟨j, hj, rfl, hz⟩ := hrel
        by_cases hlt : j < M.length
        · obtain ⟨b, off, rfl, -, hc⟩ := r2.allS (by omega)
          have q := hc j hlt
          have hst := feS_step hlt hz
          have hft := fe_take txtW M (j + 1)
          have hr := HT.out (nthS M j) (by rw [nthS_lt hlt]; exact List.getElem_mem hlt)
          obtain ⟨t, ht⟩ : ∃ t, t = nthS M j := ⟨_, rfl⟩
          rw [← ht] at q hst hr
          have HC := Lib.hid (checkLength_any (t.size : Int) w2)
          have hw : txtW t = if 1000 < (t.size : Int) then 44 else 0 := by unfold txtW; split <;> split <;> omega
          rw [← hw] at HC
          obtain ⟨z, hzz⟩ : ∃ z, z = txtW t := ⟨_, rfl⟩
          rw [← hzz] at HC hst
          by_cases h0 : z = 0
          · subst h0
            have Hst := Lib.hid hst
            clear hst hft hc hz hzz hw ht
            go_wp2_with (go_at_call 152; refine (HC.out).mono ?_; rintro e w' ⟨rfl, rfl⟩)
            go_round
            case rel => exact ⟨j + 1, by omega, by go_num, Hst.out⟩
            case measure => simp [intOf]; omega
          · have hb : (z != 0) = true := by simpa using h0
            have HF : Hid (E = z) := Lib.hid (by rw [HZ.out, hft (by rw [hst]; exact h0), hst])
            clear hst hft hc hz hzz h0 hw ht
            go_wp2_with (go_at_call 152; refine (HC.out).mono ?_; rintro e w' ⟨rfl, rfl⟩)
            go_ret
            exact ⟨ret_int HF.out.symm, hb2⟩
        · obtain rfl : j = M.length := by omega
          rw [List.take_length] at hz
          have HF : Hid (E = 0) := Lib.hid (by rw [HZ.out, hz])
          clear hz
          go_wp2
          go_ret
          exact ⟨ret_int HF.out.symm, hb2⟩

/-- what is wrong first -/
def chk (v : Vv) : Int := if gk v.k = false then 40 else if ownB v = false then 41 else if 40 < v.ns.length + v.ts.length then 45 else el v
theorem chk_kind {v : Vv} (h : gk v.k = false) : chk v = 40 := if_pos h
theorem chk_field {v : Vv} (h : gk v.k = true) (h2 : ownB v = false) : chk v = 41 := by unfold chk; rw [if_neg (by simp [h]), if_pos h2]
theorem chk_list {v : Vv} (h : gk v.k = true) (h2 : ownB v = true) (h3 : 40 < v.ns.length + v.ts.length) : chk v = 45 := by unfold chk; rw [if_neg (by simp [h]), if_neg (by simp [h2]), if_pos h3]
theorem chk_el {v : Vv} (h : gk v.k = true) (h2 : ownB v = true) (h3 : ¬ 40 < v.ns.length + v.ts.length) : chk v = el v := by unfold chk; rw [if_neg (by simp [h]), if_neg (by simp [h2]), if_neg h3]

end Go.Proofs.YthnaipgdjbaebaaGreat
