/- Check of the program, and the document's Check: the same number. -/
import Derived.Test.YthnaipgdjbaebaaGreatValCheck2
namespace Go.Proofs.YthnaipgdjbaebaaGreat
open Go.RowKit
set_option linter.unusedVariables false

/-- a value boxed in a block of its own, and what stays known of it -/
theorem box_cells {w : World} {g : Nat} {t : TypeId} {k n : Int} {s : ByteArray} {x y : Value} (h : Blk w g t #[.int .i64 k, .int .i64 n, .string s, x, y]) :
    w.cell? ⟨g, 0, none⟩ = some (.int .i64 k) ∧ w.cell? ⟨g, 1, none⟩ = some (.int .i64 n) ∧ w.cell? ⟨g, 2, none⟩ = some (.string s) ∧ w.cell? ⟨g, 3, none⟩ = some x ∧ w.cell? ⟨g, 4, none⟩ = some y :=
  ⟨by rw [h.cell 0]; rfl, by rw [h.cell 1]; rfl, by rw [h.cell 2]; rfl, by rw [h.cell 3]; rfl, by rw [h.cell 4]; rfl⟩

set_option maxRecDepth 100000 in
set_option maxHeartbeats 1000000 in
theorem Check_any (v : Vv) (x : Value) (B : Nat) (w : World) (h : VR w B v x) (hB : B ≤ w.heap.size) :
    Calls Tryz.prog 103 #[x] w fun e w' => e = .returned (.int .i64 (chk v)) ∧ Below w.heap.size w w' := by
  obtain ⟨A, c, A', c', rfl, h1, h2, h3⟩ := h
  have hk1 := h3.k1
  have hk2 := h3.k2
  have hn2 := h3.ns2
  have ht2 := h3.ts2
  have Hk := Lib.hid (@chk_kind v)
  have Hf := Lib.hid (@chk_field v)
  have Hl := Lib.hid (@chk_list v)
  have He := Lib.hid (@chk_el v)
  obtain ⟨k, n, s, ns, ts⟩ := v
  simp only at hk1 hk2 hn2 ht2
  have hV : VR w B ⟨k, n, s, ns, ts⟩ (.agg #[.int .i64 k, .int .i64 n, .string s, .slice A ns.length c, .slice A' ts.length c']) := ⟨A, c, A', c', rfl, h1, h2, h3⟩
  unfold vagg
  simp only at Hk Hf Hl He ⊢
  obtain ⟨E, hE⟩ : ∃ E, E = chk ⟨k, n, s, ns, ts⟩ := ⟨_, rfl⟩
  rw [← hE] at Hk Hf Hl He ⊢
  clear h1 h2 h3 hE
  by_cases hg : gk k = true
  · have hkk : 1 ≤ k ∧ k ≤ 8 := by unfold gk at hg; exact of_decide_eq_true hg
    obtain ⟨g1, g2⟩ := hkk
    have HG := Lib.hid (goodKind_any k (w.alloc (.cells #[.int .i64 k, .int .i64 n, .string s, .slice A ns.length c, .slice A' ts.length c'] 43)))
    rw [hg] at HG
    have HU := Lib.hid (uses_any ⟨k, n, s, ns, ts⟩ _ B (w.alloc (.cells #[.int .i64 k, .int .i64 n, .string s, .slice A ns.length c, .slice A' ts.length c'] 43)) (hV.alloc hB _) g1 g2)
    obtain ⟨o, ho⟩ : ∃ o, o = ownB ⟨k, n, s, ns, ts⟩ := ⟨_, rfl⟩
    rw [← ho] at HU Hf Hl He
    have hV1 := hV.alloc hB (.cells #[.int .i64 k, .int .i64 n, .string s, .slice A ns.length c, .slice A' ts.length c'] 43)
    have Bo : Blk (w.alloc (.cells #[.int .i64 k, .int .i64 n, .string s, .slice A ns.length c, .slice A' ts.length c'] 43)) w.heap.size 43 _ := Blk.new w 43 #[.int .i64 k, .int .i64 n, .string s, .slice A ns.length c, .slice A' ts.length c']
    have hb0 : Below w.heap.size w (w.alloc (.cells #[.int .i64 k, .int .i64 n, .string s, .slice A ns.length c, .slice A' ts.length c'] 43)) := (Below.refl _ _).alloc (Nat.le_refl _) _
    by_cases hown : o = true
    · subst hown
      have hfin : E = if 40 < ns.length + ts.length then 45 else el ⟨k, n, s, ns, ts⟩ := by
        by_cases h40 : 40 < ns.length + ts.length
        · rw [if_pos h40]; exact Hl.out hg rfl h40
        · rw [if_neg h40]; exact He.out hg rfl h40
      have HF := Lib.hid hfin
      clear Hk Hf Hl He hg hfin ho
      go_enter Tryz.func103, Tryz.ntmps103
      go_wp2_with (go_at_call 134; refine (HG.out).mono ?_; rintro e w' ⟨rfl, rfl⟩)
      refine (HU.out).mono ?_
      rintro e w1 ⟨rfl, b1⟩
      have hV2 := hV1.below (b1.mono (by simp; omega))
      have B1 := Bo.below b1 (by simp)
      have hb1 := hb0.trans (b1.mono (by simp))
      obtain ⟨q0, q1, q2, q3, q4⟩ := box_cells B1
      have hs1 := hb1.size
      clear hV1 Bo B1 b1 hb0 HU HG
      by_cases h40 : 40 < ns.length + ts.length
      · have HF2 : Hid (E = 45) := Lib.hid (by rw [HF.out, if_pos h40])
        have hi40 : (40 : Int) < (ns.length : Int) + (ts.length : Int) := by omega
        have HC := Lib.hid (checkCount_any ((ns.length : Int) + (ts.length : Int)) w1)
        rw [if_pos hi40] at HC
        clear h40 hi40
        go_wp2_with (go_at_call 136; refine (HC.out).mono ?_; rintro e w' ⟨rfl, rfl⟩)
        go_ret
        exact ⟨ret_int HF2.out.symm, hb1⟩
      · have HF2 : Hid (E = el ⟨k, n, s, ns, ts⟩) := Lib.hid (by rw [HF.out, if_neg h40])
        have hi40 : ¬ (40 : Int) < (ns.length : Int) + (ts.length : Int) := by omega
        have HC := Lib.hid (checkCount_any ((ns.length : Int) + (ts.length : Int)) w1)
        rw [if_neg hi40] at HC
        have HEl := Lib.hid (checkElements_any ⟨k, n, s, ns, ts⟩ _ B w1 hV2 (by omega) g1 g2)
        rw [← HF2.out] at HEl
        clear h40 hi40
        go_wp2_with (first | (go_at_call 136; refine (HC.out).mono ?_; rintro e w' ⟨rfl, rfl⟩) | (go_at_call 137; refine (HEl.out).mono ?_; rintro e w2 ⟨rfl, b2⟩))
        go_ret
        exact ⟨rfl, hb1.trans (b2.mono hb1.size)⟩
    · have hown : o = false := by simpa using hown
      subst hown
      have HF := Lib.hid (Hf.out hg rfl)
      clear Hk Hf Hl He hg ho
      go_enter Tryz.func103, Tryz.ntmps103
      go_wp2_with (go_at_call 134; refine (HG.out).mono ?_; rintro e w' ⟨rfl, rfl⟩)
      refine (HU.out).mono ?_
      rintro e w1 ⟨rfl, b1⟩
      have hb1 := hb0.trans (b1.mono (by simp))
      go_wp2
      go_ret
      exact ⟨ret_int HF.out.symm, hb1⟩
  · have hg : gk k = false := by simpa using hg
    have HF := Lib.hid (Hk.out hg)
    have HG := Lib.hid (goodKind_any k (w.alloc (.cells #[.int .i64 k, .int .i64 n, .string s, .slice A ns.length c, .slice A' ts.length c'] 43)))
    rw [hg] at HG
    clear Hk Hf Hl He hg
    go_enter Tryz.func103, Tryz.ntmps103
    go_wp2_with (go_at_call 134; refine (HG.out).mono ?_; rintro e w' ⟨rfl, rfl⟩)
    go_ret
    exact ⟨ret_int HF.out.symm, (Below.refl _ _).alloc (Nat.le_refl _) _⟩

/-! ### the document's -/
set_option maxRecDepth 100000 in
set_option maxHeartbeats 1000000 in
theorem numWrong_any (k n : Int) (w : World) (h1 : -9223372036854775808 ≤ n) (h2 : n ≤ 9223372036854775807) : Calls Tryz.prog 89 #[.int .i64 k, .int .i64 n] w fun e w' => e = .returned (.int .i64 (numW k n)) ∧ w = w' := by
  by_cases hk1 : k = 1
  · subst hk1
    by_cases hn0 : n = 0
    · subst hn0
      rw [numW_bool0]
      go_enter Tryz.func89, Tryz.ntmps89
      go_wp2
      go_ret
      exact ⟨rfl, rfl⟩
    by_cases hn1 : n = 1
    · subst hn1
      rw [numW_bool1]
      go_enter Tryz.func89, Tryz.ntmps89
      go_wp2
      go_ret
      exact ⟨rfl, rfl⟩
    rw [numW_bool hn0 hn1]
    have b0 : (n != 0) = true := by simpa using hn0
    have b1 : (n != 1) = true := by simpa using hn1
    clear hn0 hn1
    go_enter Tryz.func89, Tryz.ntmps89
    go_wp2
    go_ret
    exact ⟨rfl, rfl⟩
  by_cases hk3 : k = 3
  · subst hk3
    have hw := u64_wrap n
    have hu := u64_lt n
    have HN1 := Lib.hid (@numW_nan n)
    have HN2 := Lib.hid (@numW_float n)
    have HB : Hid (nanBad n = decide (u64 n / 4503599627370496 % 2048 = 2047 ∧ u64 n % 4503599627370496 ≠ 0 ∧ u64 n ≠ 9221120237041090560)) := Lib.hid rfl
    obtain ⟨u, hu'⟩ : ∃ u, u = u64 n := ⟨_, rfl⟩
    rw [← hu'] at hw hu HB
    clear hu' hk1
    have e1 : (u : Int) / 4503599627370496 % 2048 = ((u / 4503599627370496 % 2048 : Nat) : Int) := by omega
    have e2 : (u : Int) % 4503599627370496 = ((u % 4503599627370496 : Nat) : Int) := by omega
    by_cases c1 : u / 4503599627370496 % 2048 = 2047
    · have b1 : ((u : Int) / 4503599627370496 % 2048 == 2047) = true := by rw [beq_iff_eq]; omega
      by_cases c2 : u % 4503599627370496 = 0
      · have b2 : ((u : Int) % 4503599627370496 != 0) = false := by rw [bne_eq_false_iff_eq]; omega
        have HF := Lib.hid (HN2.out (by rw [HB.out]; exact decide_eq_false (fun h => h.2.1 c2)))
        clear HN1 HN2 HB e1 e2 c1 c2
        go_enter Tryz.func89, Tryz.ntmps89
        go_wp2
        go_ret
        exact ⟨ret_int HF.out.symm, rfl⟩
      · have b2 : ((u : Int) % 4503599627370496 != 0) = true := by rw [bne_iff_ne]; omega
        by_cases c3 : u = 9221120237041090560
        · have b3 : ((u : Int) != 9221120237041090560) = false := by rw [bne_eq_false_iff_eq]; omega
          have HF := Lib.hid (HN2.out (by rw [HB.out]; exact decide_eq_false (fun h => h.2.2 c3)))
          clear HN1 HN2 HB e1 e2 c1 c2 c3
          go_enter Tryz.func89, Tryz.ntmps89
          go_wp2
          go_ret
          exact ⟨ret_int HF.out.symm, rfl⟩
        · have b3 : ((u : Int) != 9221120237041090560) = true := by rw [bne_iff_ne]; omega
          have HF := Lib.hid (HN1.out (by rw [HB.out]; exact decide_eq_true ⟨c1, c2, c3⟩))
          clear HN1 HN2 HB e1 e2 c1 c2 c3
          go_enter Tryz.func89, Tryz.ntmps89
          go_wp2
          go_ret
          exact ⟨ret_int HF.out.symm, rfl⟩
    · have b1 : ((u : Int) / 4503599627370496 % 2048 == 2047) = false := by rw [beq_eq_false_iff_ne]; omega
      have HF := Lib.hid (HN2.out (by rw [HB.out]; exact decide_eq_false (fun h => c1 h.1)))
      clear HN1 HN2 HB e1 e2 c1
      go_enter Tryz.func89, Tryz.ntmps89
      go_wp2
      go_ret
      exact ⟨ret_int HF.out.symm, rfl⟩
  · rw [numW_other hk1 hk3]
    have b0 : (k == 1) = false := by simpa using hk1
    have b1 : (k == 3) = false := by simpa using hk3
    clear hk1 hk3
    go_enter Tryz.func89, Tryz.ntmps89
    go_wp2
    go_ret
    exact ⟨rfl, rfl⟩

end Go.Proofs.YthnaipgdjbaebaaGreat
