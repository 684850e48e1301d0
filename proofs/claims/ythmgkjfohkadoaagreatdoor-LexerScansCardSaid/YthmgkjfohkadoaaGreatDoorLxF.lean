/- lexer: the scanner: number. -/
import Derived.Test.YthmgkjfohkadoaaGreatDoorLxE
namespace Go.Proofs.YthmgkjfohkadoaaGreatDoor
open Go.RowKit
set_option linter.unusedVariables false

theorem i64Of_wrapL {v : Nat} (h : v < 18446744073709551616) : i64Of v = wrap64 (v : Int) := by
  unfold i64Of wrap64
  split <;> omega
theorem rdF_lt (l : Bs) : (rdF l).1 < 18446744073709551616 := by
  unfold rdF
  split
  · rename_i h
    rcases h.choose_spec with ⟨-, h, -⟩ | ⟨-, h, -⟩
    · exact h.1
    · rw [h]; decide
  · decide
theorem readF_ltL {l : Bs} {v : Nat} {c : Int} (h : ReadF l v c) : v < 18446744073709551616 := by
  rcases h with ⟨-, h, -⟩ | ⟨-, h, -⟩
  · exact h.1
  · rw [h]; decide
set_option maxHeartbeats 1000000 in
theorem wrong_any (a e0 : Int) (w : World) : Calls Tryz.prog 44 #[.int .i64 a, .int .i64 e0] w fun e w' => e = .returned (.tuple #[.agg #[.int .i64 0, .string ⟨#[]⟩, .int .i64 0, .int .i64 a], .int .i64 e0]) ∧ Below w.heap.size w w' := by
  go_enter Tryz.func44, Tryz.ntmps44
  go_wp2_with fail
  have H3 := (St.start Zf w).newBlk 30 #[.int .i64 0, .string ⟨#[]⟩, .int .i64 0, .int .i64 a]
  refine bodyPost_ret (results_aggL rfl _ _ w.heap.size 30 _ _ rfl H3.blk Tryz.underlying30 rfl (by kernel_rfl)) rfl ?_
  exact ⟨rfl, H3.bel⟩
/-- a number's token, by what is read of its form -/
noncomputable def numX (p : Nat) (F : Bs) (n : Nat) : Except (Nat × Int) (Tk × Nat) :=
  if Lib.hasPrefix (Lib.trimPrefix F [45]) [48, 120] = true then (if (rdF F).2 = 0 then .ok (⟨3, [], i64Of (rdF F).1, p⟩, n) else .error (p, (rdF F).2))
  else if (parseI F).2 = 0 then .ok (⟨2, [], (parseI F).1, p⟩, n) else .error (p, (parseI F).2)
set_option maxRecDepth 100000 in
set_option maxHeartbeats 2000000 in
theorem number_float_ok {S : Fp} {lst : List Ass} [Stable (Sep lst)] {w0 w : World} (g p : Nat) (s : ByteArray) (h : St S (ScA g s p :: lst) w0 w) (hp : p < s.size) (hs : s.size ≤ 1073741824) (hK : LxK g w)
    (F : Bs) (n : Nat) (hn : n = 1 + (((lS s).drop (p + 1)).takeWhile lxN).length) (hF : F = ((lS s).drop p).take n)
    (hb : Lib.hasPrefix (Lib.trimPrefix F [45]) [48, 120] = true) (hc : (rdF F).2 = 0) :
    Calls Tryz.prog 21 #[.pointer (some ⟨g, 0, none⟩)] w (TokW S lst w0 g s p (numX p F n)) := by
  have hX : numX p F n = .ok (⟨3, [], i64Of (rdF F).1, p⟩, n) := by
    unfold numX
    rw [if_pos hb, if_pos hc]
  rw [hX]
  unfold TokW
  have hFs : F.length ≤ 1073741824 := by
    rw [hF, List.length_take, List.length_drop, lS_len]
    omega
  have hN := (h.newBlk 30 tkZ).newBlk 30 #[.int .i64 2, .string ⟨#[]⟩, .int .i64 0, .int .i64 (p : Int)]
  simp only [World.size_alloc] at hN
  have hKN : LxK g ((w.alloc (.cells tkZ 30)).alloc (.cells #[.int .i64 2, .string ⟨#[]⟩, .int .i64 0, .int .i64 (p : Int)] 30)) := (hK.below ((Below.refl _ _).alloc (Nat.le_refl _) _)).below ((Below.refl _ _).alloc (Nat.le_refl _) _)
  have HT := Lib.hid (take_number g p s hN.bring2 hp hs hKN)
  unfold TakW at HT
  rw [← hn, ← hF] at HT
  have HTP : Hid (∀ w, Calls Tryz.prog 39 #[.string (mkS F), .string ⟨#[45]⟩] w fun e w' => e = .returned (.string (mkS (Lib.trimPrefix F [45]))) ∧ w = w') := Lib.hid fun w =>
    (Tryz.strings_TrimPrefix (mkS F) ⟨#[45]⟩ w).mono fun e w' ⟨h1, h2⟩ => ⟨h1, h2.symm⟩
  have HHP : Hid (∀ w, Calls Tryz.prog 15 #[.string (mkS (Lib.trimPrefix F [45])), .string ⟨#[48, 120]⟩] w fun e w' => e = .returned (.bool true) ∧ w = w') := Lib.hid fun w =>
    (Tryz.strings_HasPrefix (mkS (Lib.trimPrefix F [45])) ⟨#[48, 120]⟩ w).mono fun e w' ⟨h1, h2⟩ => ⟨by rw [h1]; exact ret_boolL hb, h2.symm⟩
  have HRD : Hid (∀ w, LxK g w → Calls Tryz.prog 42 #[.string (mkS F)] w fun e w' => e = .returned (.tuple #[.int .u64 ((rdF F).1 : Int), .int .i64 (rdF F).2]) ∧ Below w.heap.size w w') := Lib.hid fun w hk => by
    refine (ParseFloat_any (mkS F) w hk.w.tabs (by rw [mkS_size]; omega)).mono ?_
    rintro e w' ⟨v, c, rfl, hr, hb⟩
    have hr2 : ReadF F v c := hr
    rw [rdF_eq hr2]
    exact ⟨rfl, hb⟩
  have HVL0 : i64Of (rdF F).1 = wrap64 ((rdF F).1 : Int) := by
    have hw := hK.w.tabs
    exact i64Of_wrapL (rdF_lt F)
  have hce : ((rdF F).2 != 0) = false := by rw [hc]; rfl
  generalize (rdF F).2 = C at HRD hce ⊢
  obtain ⟨V, hV⟩ : ∃ V : Int, V = ((rdF F).1 : Int) := ⟨_, rfl⟩
  rw [← hV] at HRD
  have HVL : Hid (i64Of (rdF F).1 = wrap64 V) := Lib.hid (by rw [hV]; exact HVL0)
  obtain ⟨D, hD⟩ : ∃ D, D = mkS F := ⟨_, rfl⟩
  rw [← hD] at HT HTP HRD
  generalize mkS (Lib.trimPrefix F [45]) = T at HTP HHP
  obtain ⟨c0, c1, f1, g0⟩ := sc_cells h
  obtain ⟨N, hNs⟩ : ∃ N, N = w.heap.size := ⟨_, rfl⟩
  rw [← hNs] at HT
  have HNs : Hid (g < N) := Lib.hid (by rw [hNs]; exact g0)
  have HNE := Lib.hid hNs
  clear hN hKN h hK hFs hX hb hc hn hF hV hD hNs HVL0
  go_enter Tryz.func21, Tryz.ntmps21
  go_wp2_with fail
  rw [← HNE.out]
  refine HT.out.mono ?_
  rintro e w1 ⟨rfl, h1, k1⟩
  have H1 := Lib.hid h1
  have K1 := Lib.hid k1
  clear h1 k1 HT HNE
  go_wp2_with fail
  refine (HTP.out _).mono ?_
  rintro e w' ⟨rfl, rfl⟩
  go_wp2_with fail
  refine (HHP.out _).mono ?_
  rintro e w' ⟨rfl, rfl⟩
  go_wp2_with fail
  refine (HRD.out _ K1.out).mono ?_
  rintro e w2 ⟨rfl, hb2⟩
  have h2 := H1.out.below hb2
  have K2 := Lib.hid (K1.out.below hb2)
  obtain ⟨⟨a0, a1, a2, a3⟩, e0, l0⟩ := blk4 h2.swap
  obtain ⟨⟨d0, d1, d2, d3⟩, f0, l1⟩ := blk4 h2.bring2
  have E0 := e0 0
  have E2 := e0 2
  have F0 := f0 0
  have F1 := f0 1
  have F2 := f0 2
  have F3 := f0 3
  have H2 := Lib.hid h2
  clear h2 hb2
  go_wp2_with fail
  have H4 := (H2.out.swap.setBlk 0 (.int .i64 3)).setBlk 2 (.int .i64 (wrap64 V))
  have H3 := ((((H4.bring2.setBlk 0 (.int .i64 3)).setBlk 1 (.string ⟨#[]⟩)).setBlk 2 (.int .i64 (wrap64 V))).setBlk 3 (.int .i64 (p : Int)))
  simp only [List.setIfInBounds_toArray, List.set_cons_zero, List.set_cons_succ] at H3
  refine bodyPost_ret (results_aggL rfl _ _ N 30 _ _ rfl H3.blk Tryz.underlying30 rfl (by kernel_rfl)) rfl ?_
  refine ⟨by rw [HVL.out]; rfl, H3.drop.drop, ?_⟩
  have hgN := HNs.out
  have K4 := (K2.out.setHi (b := N + 1) (by omega) 0 (.int .i64 3)).setHi (b := N + 1) (by omega) 2 (.int .i64 (wrap64 V))
  exact (((K4.setHi (by omega) 0 _).setHi (by omega) 1 _).setHi (by omega) 2 _).setHi (by omega) 3 _
set_option maxRecDepth 100000 in
set_option maxHeartbeats 2000000 in
theorem number_float_bad {S : Fp} {lst : List Ass} [Stable (Sep lst)] {w0 w : World} (g p : Nat) (s : ByteArray) (h : St S (ScA g s p :: lst) w0 w) (hp : p < s.size) (hs : s.size ≤ 1073741824) (hK : LxK g w)
    (F : Bs) (n : Nat) (hn : n = 1 + (((lS s).drop (p + 1)).takeWhile lxN).length) (hF : F = ((lS s).drop p).take n)
    (hb : Lib.hasPrefix (Lib.trimPrefix F [45]) [48, 120] = true) (hc : (rdF F).2 ≠ 0) :
    Calls Tryz.prog 21 #[.pointer (some ⟨g, 0, none⟩)] w (TokW S lst w0 g s p (numX p F n)) := by
  have hX : numX p F n = .error (p, (rdF F).2) := by
    unfold numX
    rw [if_pos hb, if_neg hc]
  rw [hX]
  unfold TokW
  have hFs : F.length ≤ 1073741824 := by
    rw [hF, List.length_take, List.length_drop, lS_len]
    omega
  have hN := (h.newBlk 30 tkZ).newBlk 30 #[.int .i64 2, .string ⟨#[]⟩, .int .i64 0, .int .i64 (p : Int)]
  simp only [World.size_alloc] at hN
  have hKN : LxK g ((w.alloc (.cells tkZ 30)).alloc (.cells #[.int .i64 2, .string ⟨#[]⟩, .int .i64 0, .int .i64 (p : Int)] 30)) := (hK.below ((Below.refl _ _).alloc (Nat.le_refl _) _)).below ((Below.refl _ _).alloc (Nat.le_refl _) _)
  have HT := Lib.hid (take_number g p s hN.bring2 hp hs hKN)
  unfold TakW at HT
  rw [← hn, ← hF] at HT
  have HTP : Hid (∀ w, Calls Tryz.prog 39 #[.string (mkS F), .string ⟨#[45]⟩] w fun e w' => e = .returned (.string (mkS (Lib.trimPrefix F [45]))) ∧ w = w') := Lib.hid fun w =>
    (Tryz.strings_TrimPrefix (mkS F) ⟨#[45]⟩ w).mono fun e w' ⟨h1, h2⟩ => ⟨h1, h2.symm⟩
  have HHP : Hid (∀ w, Calls Tryz.prog 15 #[.string (mkS (Lib.trimPrefix F [45])), .string ⟨#[48, 120]⟩] w fun e w' => e = .returned (.bool true) ∧ w = w') := Lib.hid fun w =>
    (Tryz.strings_HasPrefix (mkS (Lib.trimPrefix F [45])) ⟨#[48, 120]⟩ w).mono fun e w' ⟨h1, h2⟩ => ⟨by rw [h1]; exact ret_boolL hb, h2.symm⟩
  have HRD : Hid (∀ w, LxK g w → Calls Tryz.prog 42 #[.string (mkS F)] w fun e w' => e = .returned (.tuple #[.int .u64 ((rdF F).1 : Int), .int .i64 (rdF F).2]) ∧ Below w.heap.size w w') := Lib.hid fun w hk => by
    refine (ParseFloat_any (mkS F) w hk.w.tabs (by rw [mkS_size]; omega)).mono ?_
    rintro e w' ⟨v, c, rfl, hr, hb⟩
    have hr2 : ReadF F v c := hr
    rw [rdF_eq hr2]
    exact ⟨rfl, hb⟩
  have hce : ((rdF F).2 != 0) = true := by rw [bne_iff_ne]; exact hc
  generalize (rdF F).2 = C at HRD hce ⊢
  obtain ⟨V, hV⟩ : ∃ V : Int, V = ((rdF F).1 : Int) := ⟨_, rfl⟩
  rw [← hV] at HRD
  obtain ⟨D, hD⟩ : ∃ D, D = mkS F := ⟨_, rfl⟩
  rw [← hD] at HT HTP HRD
  generalize mkS (Lib.trimPrefix F [45]) = T at HTP HHP
  obtain ⟨c0, c1, f1, g0⟩ := sc_cells h
  obtain ⟨N, hNs⟩ : ∃ N, N = w.heap.size := ⟨_, rfl⟩
  rw [← hNs] at HT
  have HNs : Hid (g < N) := Lib.hid (by rw [hNs]; exact g0)
  have HNE := Lib.hid hNs
  clear hN hKN h hK hFs hX hb hc hn hF hV hD hNs
  go_enter Tryz.func21, Tryz.ntmps21
  go_wp2_with fail
  rw [← HNE.out]
  refine HT.out.mono ?_
  rintro e w1 ⟨rfl, h1, k1⟩
  have H1 := Lib.hid h1
  have K1 := Lib.hid k1
  clear h1 k1 HT HNE
  go_wp2_with fail
  refine (HTP.out _).mono ?_
  rintro e w' ⟨rfl, rfl⟩
  go_wp2_with fail
  refine (HHP.out _).mono ?_
  rintro e w' ⟨rfl, rfl⟩
  go_wp2_with fail
  refine (HRD.out _ K1.out).mono ?_
  rintro e w2 ⟨rfl, hb2⟩
  have h2 := H1.out.below hb2
  have K2 := Lib.hid (K1.out.below hb2)
  obtain ⟨⟨a0, a1, a2, a3⟩, e0, l0⟩ := blk4 h2.swap
  obtain ⟨⟨d0, d1, d2, d3⟩, f0, l1⟩ := blk4 h2.bring2
  have E0 := e0 0
  have E2 := e0 2
  have F0 := f0 0
  have F1 := f0 1
  have F2 := f0 2
  have F3 := f0 3
  have H2 := Lib.hid h2
  clear h2 hb2
  go_wp2_with fail
  have H4 := (H2.out.swap.setBlk 0 (.int .i64 3)).setBlk 2 (.int .i64 (wrap64 V))
  have hgN := HNs.out
  have K4 := (K2.out.setHi (b := N + 1) (by omega) 0 (.int .i64 3)).setHi (b := N + 1) (by omega) 2 (.int .i64 (wrap64 V))
  clear hgN
  have H4' := Lib.hid H4
  have K4' := Lib.hid K4
  clear H4 K4
  have HWR := Lib.hid fun w => wrong_any (p : Int) C w
  refine (HWR.out _).mono ?_
  rintro e w3 ⟨rfl, hb3⟩
  have h5 := H4'.out.below hb3
  have K5 := Lib.hid (K4'.out.below hb3)
  obtain ⟨⟨u0, u1, u2, u3⟩, v0, m1⟩ := blk4 h5.bring2
  have V0 := v0 0
  have V1 := v0 1
  have V2 := v0 2
  have V3 := v0 3
  have H5 := Lib.hid h5
  clear h5 hb3
  go_wp2_with fail
  have H3 := ((((H5.out.bring2.setBlk 0 (.int .i64 0)).setBlk 1 (.string ⟨#[]⟩)).setBlk 2 (.int .i64 0)).setBlk 3 (.int .i64 (p : Int)))
  simp only [List.setIfInBounds_toArray, List.set_cons_zero, List.set_cons_succ] at H3
  refine bodyPost_ret (results_aggL rfl _ _ N 30 _ _ rfl H3.blk Tryz.underlying30 rfl (by kernel_rfl)) rfl ?_
  have hgN := HNs.out
  exact ⟨rfl, _, H3.drop.drop, (((K5.out.setHi (by omega) 0 _).setHi (by omega) 1 _).setHi (by omega) 2 _).setHi (by omega) 3 _⟩
set_option maxRecDepth 100000 in
set_option maxHeartbeats 2000000 in
theorem number_int_ok {S : Fp} {lst : List Ass} [Stable (Sep lst)] {w0 w : World} (g p : Nat) (s : ByteArray) (h : St S (ScA g s p :: lst) w0 w) (hp : p < s.size) (hs : s.size ≤ 1073741824) (hK : LxK g w)
    (F : Bs) (n : Nat) (hn : n = 1 + (((lS s).drop (p + 1)).takeWhile lxN).length) (hF : F = ((lS s).drop p).take n)
    (hb : Lib.hasPrefix (Lib.trimPrefix F [45]) [48, 120] = false) (hc : (parseI F).2 = 0) :
    Calls Tryz.prog 21 #[.pointer (some ⟨g, 0, none⟩)] w (TokW S lst w0 g s p (numX p F n)) := by
  have hX : numX p F n = .ok (⟨2, [], (parseI F).1, p⟩, n) := by
    unfold numX
    rw [if_neg (by rw [hb]; decide), if_pos hc]
  rw [hX]
  unfold TokW
  have hFs : F.length ≤ 1073741824 := by
    rw [hF, List.length_take, List.length_drop, lS_len]
    omega
  have hN := (h.newBlk 30 tkZ).newBlk 30 #[.int .i64 2, .string ⟨#[]⟩, .int .i64 0, .int .i64 (p : Int)]
  simp only [World.size_alloc] at hN
  have hKN : LxK g ((w.alloc (.cells tkZ 30)).alloc (.cells #[.int .i64 2, .string ⟨#[]⟩, .int .i64 0, .int .i64 (p : Int)] 30)) := (hK.below ((Below.refl _ _).alloc (Nat.le_refl _) _)).below ((Below.refl _ _).alloc (Nat.le_refl _) _)
  have HT := Lib.hid (take_number g p s hN.bring2 hp hs hKN)
  unfold TakW at HT
  rw [← hn, ← hF] at HT
  have HTP : Hid (∀ w, Calls Tryz.prog 39 #[.string (mkS F), .string ⟨#[45]⟩] w fun e w' => e = .returned (.string (mkS (Lib.trimPrefix F [45]))) ∧ w = w') := Lib.hid fun w =>
    (Tryz.strings_TrimPrefix (mkS F) ⟨#[45]⟩ w).mono fun e w' ⟨h1, h2⟩ => ⟨h1, h2.symm⟩
  have HHP : Hid (∀ w, Calls Tryz.prog 15 #[.string (mkS (Lib.trimPrefix F [45])), .string ⟨#[48, 120]⟩] w fun e w' => e = .returned (.bool false) ∧ w = w') := Lib.hid fun w =>
    (Tryz.strings_HasPrefix (mkS (Lib.trimPrefix F [45])) ⟨#[48, 120]⟩ w).mono fun e w' ⟨h1, h2⟩ => ⟨by rw [h1]; exact ret_boolL hb, h2.symm⟩
  have HRD : Hid (∀ w, LxK g w → Calls Tryz.prog 43 #[.string (mkS F)] w fun e w' => e = .returned (.tuple #[.int .i64 (parseI F).1, .int .i64 (parseI F).2]) ∧ Below w.heap.size w w') := Lib.hid fun w hk => by
    exact ParseInt_any (mkS F) w hk.w.tabs (by rw [mkS_size]; omega)
  have hce : ((parseI F).2 != 0) = false := by rw [hc]; rfl
  generalize (parseI F).2 = C at HRD hce ⊢
  obtain ⟨V, hV⟩ : ∃ V : Int, V = (parseI F).1 := ⟨_, rfl⟩
  rw [← hV] at HRD
  have HVL : Hid ((parseI F).1 = V) := Lib.hid hV.symm
  obtain ⟨D, hD⟩ : ∃ D, D = mkS F := ⟨_, rfl⟩
  rw [← hD] at HT HTP HRD
  generalize mkS (Lib.trimPrefix F [45]) = T at HTP HHP
  obtain ⟨c0, c1, f1, g0⟩ := sc_cells h
  obtain ⟨N, hNs⟩ : ∃ N, N = w.heap.size := ⟨_, rfl⟩
  rw [← hNs] at HT
  have HNs : Hid (g < N) := Lib.hid (by rw [hNs]; exact g0)
  have HNE := Lib.hid hNs
  clear hN hKN h hK hFs hX hb hc hn hF hV hD hNs
  go_enter Tryz.func21, Tryz.ntmps21
  go_wp2_with fail
  rw [← HNE.out]
  refine HT.out.mono ?_
  rintro e w1 ⟨rfl, h1, k1⟩
  have H1 := Lib.hid h1
  have K1 := Lib.hid k1
  clear h1 k1 HT HNE
  go_wp2_with fail
  refine (HTP.out _).mono ?_
  rintro e w' ⟨rfl, rfl⟩
  go_wp2_with fail
  refine (HHP.out _).mono ?_
  rintro e w' ⟨rfl, rfl⟩
  go_wp2_with fail
  refine (HRD.out _ K1.out).mono ?_
  rintro e w2 ⟨rfl, hb2⟩
  have h2 := H1.out.below hb2
  have K2 := Lib.hid (K1.out.below hb2)
  obtain ⟨⟨a0, a1, a2, a3⟩, e0, l0⟩ := blk4 h2.swap
  obtain ⟨⟨d0, d1, d2, d3⟩, f0, l1⟩ := blk4 h2.bring2
  have E0 := e0 0
  have E2 := e0 2
  have F0 := f0 0
  have F1 := f0 1
  have F2 := f0 2
  have F3 := f0 3
  have H2 := Lib.hid h2
  clear h2 hb2
  go_wp2_with fail
  have H4 := H2.out.swap.setBlk 2 (.int .i64 V)
  have H3 := ((((H4.bring2.setBlk 0 (.int .i64 2)).setBlk 1 (.string ⟨#[]⟩)).setBlk 2 (.int .i64 V)).setBlk 3 (.int .i64 (p : Int)))
  simp only [List.setIfInBounds_toArray, List.set_cons_zero, List.set_cons_succ] at H3
  refine bodyPost_ret (results_aggL rfl _ _ N 30 _ _ rfl H3.blk Tryz.underlying30 rfl (by kernel_rfl)) rfl ?_
  refine ⟨by rw [HVL.out]; rfl, H3.drop.drop, ?_⟩
  have hgN := HNs.out
  have K4 := K2.out.setHi (b := N + 1) (by omega) 2 (.int .i64 V)
  exact (((K4.setHi (by omega) 0 _).setHi (by omega) 1 _).setHi (by omega) 2 _).setHi (by omega) 3 _
set_option maxRecDepth 100000 in
set_option maxHeartbeats 2000000 in
theorem number_int_bad {S : Fp} {lst : List Ass} [Stable (Sep lst)] {w0 w : World} (g p : Nat) (s : ByteArray) (h : St S (ScA g s p :: lst) w0 w) (hp : p < s.size) (hs : s.size ≤ 1073741824) (hK : LxK g w)
    (F : Bs) (n : Nat) (hn : n = 1 + (((lS s).drop (p + 1)).takeWhile lxN).length) (hF : F = ((lS s).drop p).take n)
    (hb : Lib.hasPrefix (Lib.trimPrefix F [45]) [48, 120] = false) (hc : (parseI F).2 ≠ 0) :
    Calls Tryz.prog 21 #[.pointer (some ⟨g, 0, none⟩)] w (TokW S lst w0 g s p (numX p F n)) := by
  have hX : numX p F n = .error (p, (parseI F).2) := by
    unfold numX
    rw [if_neg (by rw [hb]; decide), if_neg hc]
  rw [hX]
  unfold TokW
  have hFs : F.length ≤ 1073741824 := by
    rw [hF, List.length_take, List.length_drop, lS_len]
    omega
  have hN := (h.newBlk 30 tkZ).newBlk 30 #[.int .i64 2, .string ⟨#[]⟩, .int .i64 0, .int .i64 (p : Int)]
  simp only [World.size_alloc] at hN
  have hKN : LxK g ((w.alloc (.cells tkZ 30)).alloc (.cells #[.int .i64 2, .string ⟨#[]⟩, .int .i64 0, .int .i64 (p : Int)] 30)) := (hK.below ((Below.refl _ _).alloc (Nat.le_refl _) _)).below ((Below.refl _ _).alloc (Nat.le_refl _) _)
  have HT := Lib.hid (take_number g p s hN.bring2 hp hs hKN)
  unfold TakW at HT
  rw [← hn, ← hF] at HT
  have HTP : Hid (∀ w, Calls Tryz.prog 39 #[.string (mkS F), .string ⟨#[45]⟩] w fun e w' => e = .returned (.string (mkS (Lib.trimPrefix F [45]))) ∧ w = w') := Lib.hid fun w =>
    (Tryz.strings_TrimPrefix (mkS F) ⟨#[45]⟩ w).mono fun e w' ⟨h1, h2⟩ => ⟨h1, h2.symm⟩
  have HHP : Hid (∀ w, Calls Tryz.prog 15 #[.string (mkS (Lib.trimPrefix F [45])), .string ⟨#[48, 120]⟩] w fun e w' => e = .returned (.bool false) ∧ w = w') := Lib.hid fun w =>
    (Tryz.strings_HasPrefix (mkS (Lib.trimPrefix F [45])) ⟨#[48, 120]⟩ w).mono fun e w' ⟨h1, h2⟩ => ⟨by rw [h1]; exact ret_boolL hb, h2.symm⟩
  have HRD : Hid (∀ w, LxK g w → Calls Tryz.prog 43 #[.string (mkS F)] w fun e w' => e = .returned (.tuple #[.int .i64 (parseI F).1, .int .i64 (parseI F).2]) ∧ Below w.heap.size w w') := Lib.hid fun w hk => by
    exact ParseInt_any (mkS F) w hk.w.tabs (by rw [mkS_size]; omega)
  have hce : ((parseI F).2 != 0) = true := by rw [bne_iff_ne]; exact hc
  generalize (parseI F).2 = C at HRD hce ⊢
  obtain ⟨V, hV⟩ : ∃ V : Int, V = (parseI F).1 := ⟨_, rfl⟩
  rw [← hV] at HRD
  obtain ⟨D, hD⟩ : ∃ D, D = mkS F := ⟨_, rfl⟩
  rw [← hD] at HT HTP HRD
  generalize mkS (Lib.trimPrefix F [45]) = T at HTP HHP
  obtain ⟨c0, c1, f1, g0⟩ := sc_cells h
  obtain ⟨N, hNs⟩ : ∃ N, N = w.heap.size := ⟨_, rfl⟩
  rw [← hNs] at HT
  have HNs : Hid (g < N) := Lib.hid (by rw [hNs]; exact g0)
  have HNE := Lib.hid hNs
  clear hN hKN h hK hFs hX hb hc hn hF hV hD hNs
  go_enter Tryz.func21, Tryz.ntmps21
  go_wp2_with fail
  rw [← HNE.out]
  refine HT.out.mono ?_
  rintro e w1 ⟨rfl, h1, k1⟩
  have H1 := Lib.hid h1
  have K1 := Lib.hid k1
  clear h1 k1 HT HNE
  go_wp2_with fail
  refine (HTP.out _).mono ?_
  rintro e w' ⟨rfl, rfl⟩
  go_wp2_with fail
  refine (HHP.out _).mono ?_
  rintro e w' ⟨rfl, rfl⟩
  go_wp2_with fail
  refine (HRD.out _ K1.out).mono ?_
  rintro e w2 ⟨rfl, hb2⟩
  have h2 := H1.out.below hb2
  have K2 := Lib.hid (K1.out.below hb2)
  obtain ⟨⟨a0, a1, a2, a3⟩, e0, l0⟩ := blk4 h2.swap
  obtain ⟨⟨d0, d1, d2, d3⟩, f0, l1⟩ := blk4 h2.bring2
  have E0 := e0 0
  have E2 := e0 2
  have F0 := f0 0
  have F1 := f0 1
  have F2 := f0 2
  have F3 := f0 3
  have H2 := Lib.hid h2
  clear h2 hb2
  go_wp2_with fail
  have H4 := H2.out.swap.setBlk 2 (.int .i64 V)
  have hgN := HNs.out
  have K4 := K2.out.setHi (b := N + 1) (by omega) 2 (.int .i64 V)
  clear hgN
  have H4' := Lib.hid H4
  have K4' := Lib.hid K4
  clear H4 K4
  have HWR := Lib.hid fun w => wrong_any (p : Int) C w
  refine (HWR.out _).mono ?_
  rintro e w3 ⟨rfl, hb3⟩
  have h5 := H4'.out.below hb3
  have K5 := Lib.hid (K4'.out.below hb3)
  obtain ⟨⟨u0, u1, u2, u3⟩, v0, m1⟩ := blk4 h5.bring2
  have V0 := v0 0
  have V1 := v0 1
  have V2 := v0 2
  have V3 := v0 3
  have H5 := Lib.hid h5
  clear h5 hb3
  go_wp2_with fail
  have H3 := ((((H5.out.bring2.setBlk 0 (.int .i64 0)).setBlk 1 (.string ⟨#[]⟩)).setBlk 2 (.int .i64 0)).setBlk 3 (.int .i64 (p : Int)))
  simp only [List.setIfInBounds_toArray, List.set_cons_zero, List.set_cons_succ] at H3
  refine bodyPost_ret (results_aggL rfl _ _ N 30 _ _ rfl H3.blk Tryz.underlying30 rfl (by kernel_rfl)) rfl ?_
  have hgN := HNs.out
  exact ⟨rfl, _, H3.drop.drop, (((K5.out.setHi (by omega) 0 _).setHi (by omega) 1 _).setHi (by omega) 2 _).setHi (by omega) 3 _⟩
theorem number_any {S : Fp} {lst : List Ass} [Stable (Sep lst)] {w0 w : World} (g p : Nat) (s : ByteArray) (h : St S (ScA g s p :: lst) w0 w) (hp : p < s.size) (hs : s.size ≤ 1073741824) (hK : LxK g w)
    (F : Bs) (n : Nat) (hn : n = 1 + (((lS s).drop (p + 1)).takeWhile lxN).length) (hF : F = ((lS s).drop p).take n) :
    Calls Tryz.prog 21 #[.pointer (some ⟨g, 0, none⟩)] w (TokW S lst w0 g s p (numX p F n)) := by
  cases hb : Lib.hasPrefix (Lib.trimPrefix F [45]) [48, 120] with
  | true =>
    by_cases hc : (rdF F).2 = 0
    · exact number_float_ok g p s h hp hs hK F n hn hF hb hc
    · exact number_float_bad g p s h hp hs hK F n hn hF hb hc
  | false =>
    by_cases hc : (parseI F).2 = 0
    · exact number_int_ok g p s h hp hs hK F n hn hF hb hc
    · exact number_int_bad g p s h hp hs hK F n hn hF hb hc
end Go.Proofs.YthmgkjfohkadoaaGreatDoor
