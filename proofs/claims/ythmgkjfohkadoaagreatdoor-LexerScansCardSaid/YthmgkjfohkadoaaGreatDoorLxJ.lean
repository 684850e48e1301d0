/- lexer: the scanner: token. -/
import Derived.Test.YthmgkjfohkadoaaGreatDoorLxH
import Derived.Test.YthmgkjfohkadoaaGreatDoorLxI
namespace Go.Proofs.YthmgkjfohkadoaaGreatDoor
open Go.RowKit
set_option linter.unusedVariables false
set_option linter.unusedSimpArgs false

/-- does a number begin here? -/
def bgN (l : Bs) : Bool := match cutNeg l with
  | [] => false
  | c :: _ => lxD c
theorem cutNeg_cons (c : UInt8) (r : Bs) : cutNeg (c :: r) = if c = 45 then r else c :: r := by
  show (if c.toNat = 45 then r else c :: r) = _
  by_cases h : c = 45
  · subst h; rfl
  · rw [if_neg h, if_neg (fun e => h (UInt8.toNat_inj.1 (by show c.toNat = 45; exact e)))]
theorem bgN_iff (c : UInt8) (r : Bs) : bgN (c :: r) = true ↔ (lxD c = true ∨ (c = 45 ∧ (r.head?.map lxD) = some true)) := by
  unfold bgN
  rw [cutNeg_cons]
  by_cases h : c = 45
  · subst h
    rw [if_pos rfl]
    have h2 : lxD 45 = false := by decide
    cases r with
    | nil => simp [h2]
    | cons y r => simp [h2]
  · rw [if_neg h]
    simp [h]
set_option maxHeartbeats 1000000 in
theorem beginsNumber_any (l : Bs) (w : World) : Calls Tryz.prog 20 #[.string (mkS l)] w fun e w' => e = .returned (.bool (bgN l)) ∧ w = w' := by
  have HT : Hid (∀ w, Calls Tryz.prog 39 #[.string (mkS l), .string ⟨#[45]⟩] w fun e w' => e = .returned (.string (mkS (cutNeg l))) ∧ w = w') := Lib.hid fun w =>
    (Tryz.strings_TrimPrefix (mkS l) ⟨#[45]⟩ w).mono fun e w' ⟨h1, h2⟩ => ⟨by rw [h1, show (⟨#[45]⟩ : ByteArray).data.toList = [45] from rfl, trimNeg]; rfl, h2.symm⟩
  unfold bgN
  generalize mkS l = D at HT ⊢
  obtain ⟨T, hT⟩ : ∃ T, T = cutNeg l := ⟨_, rfl⟩
  rw [← hT] at HT ⊢
  clear hT
  cases T with
  | nil =>
    rw [show mkS [] = (⟨#[]⟩ : ByteArray) from rfl] at HT
    go_enter Tryz.func20, Tryz.ntmps20
    go_wp2_with fail
    refine (HT.out _).mono ?_
    rintro e w' ⟨rfl, rfl⟩
    go_wp2
    go_ret
    exact ⟨rfl, rfl⟩
  | cons c r =>
    have HD := Lib.hid fun w => isDigit_any c w
    have hs0 : 0 < (mkS (c :: r)).size := by rw [mkS_size]; simp
    have hc : (mkS (c :: r))[0]'hs0 = c := mkS_at (c :: r) 0 (by simp) hs0
    have hne : (mkS (c :: r)).toList.isEmpty = false := by rw [Lib.toList_data]; rfl
    generalize mkS (c :: r) = T at HT hs0 hc hne
    go_enter Tryz.func20, Tryz.ntmps20
    go_wp2_with fail
    refine (HT.out _).mono ?_
    rintro e w' ⟨rfl, rfl⟩
    go_wp2_with fail
    refine (HD.out _).mono ?_
    rintro e w' ⟨rfl, rfl⟩
    go_wp2
    go_ret
    exact ⟨rfl, rfl⟩
theorem L_not39 {x : UInt8} (h : lxL x = true) : x ≠ 39 := by
  rintro rfl
  exact absurd h (by decide)
theorem tok_word {p : Nat} {x : UInt8} {r : Bs} (h : lxL x = true) : tokG p (x :: r) = .ok (⟨1, x :: r.takeWhile lxW, 0, p⟩, 1 + (r.takeWhile lxW).length) := by
  simp only [tokG]
  rw [if_neg (L_not39 h), if_pos h]
theorem num_not39 {x : UInt8} {r : Bs} (h : bgN (x :: r) = true) : x ≠ 39 := by
  rintro rfl
  rcases (bgN_iff 39 r).1 h with h | ⟨h, -⟩
  · exact absurd h (by decide)
  · exact absurd h (by decide)
theorem tok_num {p : Nat} {x : UInt8} {r : Bs} (h0 : lxL x = false) (h : bgN (x :: r) = true) : tokG p (x :: r) = numX p (x :: r.takeWhile lxN) (1 + (r.takeWhile lxN).length) := by
  simp only [tokG]
  rw [if_neg (num_not39 h), if_neg (by rw [h0]; decide), if_pos ((bgN_iff x r).1 h)]
  rfl
theorem tok_text {p : Nat} {r : Bs} : tokG p (39 :: r) = txtX p (txtG p (p + 1) [] r) := by
  simp only [tokG]
  rw [if_pos trivial]
  cases txtG p (p + 1) [] r <;> rfl
theorem pre1 (x m : UInt8) (r : Bs) : Lib.hasPrefix (x :: r) [m] = decide (x = m) := by
  unfold Lib.hasPrefix
  by_cases h : x = m
  · subst h
    simp [List.isPrefixOf]
  · have h' : (m == x) = false := by rw [beq_eq_false_iff_ne]; exact fun e => h e.symm
    simp [List.isPrefixOf, h', h]
theorem pre2 (x : UInt8) (r : Bs) : Lib.hasPrefix (x :: r) [45, 62] = decide (x = 45 ∧ r.head? = some 62) := by
  unfold Lib.hasPrefix
  by_cases h : x = 45
  · subst h
    cases r with
    | nil => simp [List.isPrefixOf]
    | cons y r =>
      by_cases h2 : y = 62
      · subst h2
        simp [List.isPrefixOf]
      · have h' : ((62 : UInt8) == y) = false := by rw [beq_eq_false_iff_ne]; exact fun e => h2 e.symm
        simp [List.isPrefixOf, h', h2]
  · have h' : ((45 : UInt8) == x) = false := by rw [beq_eq_false_iff_ne]; exact fun e => h e.symm
    simp [List.isPrefixOf, h', h]
theorem tok_mark {p : Nat} {x : UInt8} {r : Bs} (h0 : lxL x = false) (h1 : bgN (x :: r) = false) (h2 : x ≠ 39) : tokG p (x :: r) = markX p (x :: r) markL := by
  simp only [tokG]
  rw [if_neg h2, if_neg (by rw [h0]; decide), if_neg (fun h => by rw [(bgN_iff x r).2 h] at h1; cases h1)]
  simp only [markL, markX, pre1, pre2, decide_eq_true_eq]
  by_cases a1 : x = 40
  · subst a1; simp
  · by_cases a2 : x = 41
    · subst a2; simp
    · by_cases a3 : x = 123
      · subst a3; simp
      · by_cases a4 : x = 125
        · subst a4; simp
        · by_cases a5 : x = 91
          · subst a5; simp
          · by_cases a6 : x = 93
            · subst a6; simp
            · by_cases a7 : x = 58
              · subst a7; simp
              · by_cases a8 : x = 44
                · subst a8; simp
                · by_cases a9 : x = 59
                  · subst a9; simp
                  · by_cases b1 : x = 45 ∧ r.head? = some 62
                    · simp [a1, a2, a3, a4, a5, a6, a7, a8, a9, b1]
                    · by_cases b2 : x = 45
                      · subst b2
                        have b3 : ¬ r.head? = some 62 := fun h => b1 ⟨rfl, h⟩
                        simp [b3]
                      · simp [a1, a2, a3, a4, a5, a6, a7, a8, a9, b2]
/-- a token's answer, its cells -/
def TokQ (R : Except (Nat × Int) (Tk × Nat)) (c0 : Int) (c1 : ByteArray) (c2 c3 : Int) (E : Int) (p q : Nat) : Prop := match R with
  | .error x => #[.int .i64 c0, .string c1, .int .i64 c2, .int .i64 c3] = tkC (tk0 x.1) ∧ E = x.2
  | .ok x => #[.int .i64 c0, .string c1, .int .i64 c2, .int .i64 c3] = tkC x.1 ∧ E = 0 ∧ q = p + x.2
theorem TokW.form {S : Fp} {lst : List Ass} {w0 w' : World} {g p : Nat} {s : ByteArray} {R : Except (Nat × Int) (Tk × Nat)} {e : Ending} (h : TokW S lst w0 g s p R e w') :
    ∃ c0 c1 c2 c3 E q, e = .returned (.tuple #[.agg #[.int .i64 c0, .string c1, .int .i64 c2, .int .i64 c3], .int .i64 E]) ∧ TokQ R c0 c1 c2 c3 E p q ∧ St S (ScA g s q :: lst) w0 w' ∧ LxK g w' := by
  cases R with
  | error x =>
    obtain ⟨h1, q, h2, h3⟩ := h
    exact ⟨_, _, _, _, _, q, h1, ⟨rfl, rfl⟩, h2, h3⟩
  | ok x =>
    obtain ⟨h1, h2, h3⟩ := h
    exact ⟨_, _, _, _, _, _, h1, ⟨rfl, rfl, rfl⟩, h2, h3⟩
theorem TokQ.back {S : Fp} {lst : List Ass} {w0 w' : World} {g p q : Nat} {s : ByteArray} {R : Except (Nat × Int) (Tk × Nat)} {c0 : Int} {c1 : ByteArray} {c2 c3 : Int} {E : Int} (h : TokQ R c0 c1 c2 c3 E p q) (h1 : St S (ScA g s q :: lst) w0 w') (h2 : LxK g w') :
    TokW S lst w0 g s p R (.returned (.tuple #[.agg #[.int .i64 c0, .string c1, .int .i64 c2, .int .i64 c3], .int .i64 E])) w' := by
  cases R with
  | error x =>
    obtain ⟨h3, h4⟩ := h
    refine ⟨?_, q, h1, h2⟩
    rw [h3, h4]
    rfl
  | ok x =>
    obtain ⟨h3, h4, h5⟩ := h
    refine ⟨?_, h5 ▸ h1, h2⟩
    rw [h3, h4]
    rfl
/-! the walk -/
set_option maxRecDepth 100000 in
set_option maxHeartbeats 1000000 in
theorem token_word {S : Fp} {lst : List Ass} [Stable (Sep lst)] {w0 w : World} (g p : Nat) (s : ByteArray) (x : UInt8) (h : St S (ScA g s p :: lst) w0 w) (hp : p < s.size) (hs : s.size ≤ 1073741824) (hK : LxK g w) (hx : s[p]'hp = x) (hdr : (lS s).drop p = x :: (lS s).drop (p + 1)) (hw : lxL x = true) :
    Calls Tryz.prog 9 #[.pointer (some ⟨g, 0, none⟩)] w (TokW S lst w0 g s p (tokG p ((lS s).drop p))) := by
  obtain ⟨R, hR⟩ : ∃ R, R = tokG p ((lS s).drop p) := ⟨_, rfl⟩
  rw [← hR]
  rw [hdr] at hR
  obtain ⟨c0, c1, f1, g0⟩ := sc_cells h
  obtain ⟨N, hN⟩ : ∃ N, N = w.heap.size := ⟨_, rfl⟩
  have HNE := Lib.hid hN
  obtain ⟨W1, hW1⟩ : ∃ W1, W1 = w.alloc (.cells tkZ 30) := ⟨_, rfl⟩
  have HW1 := Lib.hid hW1
  obtain ⟨P, hP⟩ : ∃ P : World → Prop, P = fun wx => St S (ScA g s p :: BlkA N 30 tkZ :: lst) w0 wx ∧ LxK g wx := ⟨_, rfl⟩
  have HPP : ∀ wx, P wx → St S (ScA g s p :: BlkA N 30 tkZ :: lst) w0 wx ∧ LxK g wx := fun wx h => by rw [hP] at h; exact h
  have HS1 : Hid (∀ q, P (W1.drewN q)) := Lib.hid fun q => by
    rw [hP, hW1, hN]
    exact ⟨((h.newBlk 30 tkZ).swap).drewN q, (hK.below ((Below.refl _ _).alloc (Nat.le_refl _) _)).drewN q⟩
  have HGN : Hid (g < N) := Lib.hid (by rw [hN]; exact g0)
  have HL := Lib.hid (fun w => beginsWord_any x w)
  rw [hw] at HL
  have HWD := Lib.hid fun wx (h : P wx) => word_any g p s (HPP wx h).1 hp hs (HPP wx h).2
  have HTK : Hid (((lS s).drop p).take (1 + (((lS s).drop (p + 1)).takeWhile lxW).length) = x :: ((lS s).drop (p + 1)).takeWhile lxW) := Lib.hid (by rw [hdr, Nat.add_comm 1, List.take_succ_cons, tw_take])
  rw [HTK.out] at HWD
  have HR : Hid (R = .ok (⟨1, x :: ((lS s).drop (p + 1)).takeWhile lxW, 0, p⟩, 1 + (((lS s).drop (p + 1)).takeWhile lxW).length)) := Lib.hid (hR.trans (tok_word hw))
  obtain ⟨T, hT⟩ : ∃ T, T = x :: ((lS s).drop (p + 1)).takeWhile lxW := ⟨_, rfl⟩
  rw [← hT] at HWD HR
  generalize 1 + (((lS s).drop (p + 1)).takeWhile lxW).length = n at HWD HR
  clear hT HTK
  unfold tkV tkC at HWD
  have i1 : (0 : Int) ≤ (p : Int) := by omega
  clear h hK hN hW1 hdr hR hP HPP
  go_enter Tryz.func9, Tryz.ntmps9
  go_wp2
  go_quiet (fail)
  go_wp2_with fail
  rw [← HW1.out, ← HNE.out]
  clear c0 c1 f1 g0
  refine (HL.out _).mono ?_
  rintro e w' ⟨rfl, rfl⟩
  go_wp2_with fail
  refine (HWD.out _ (HS1.out _)).mono ?_
  rintro e w9 ⟨rfl, h9, k9⟩
  obtain ⟨⟨d0, d1, d2, d3⟩, f0, l1⟩ := blk4 h9.swap
  have F0 := f0 0
  have F1 := f0 1
  have F2 := f0 2
  have F3 := f0 3
  have H9 := Lib.hid h9
  have K9 := Lib.hid k9
  clear h9 k9 f0
  go_wp2_with fail
  have H3 := ((((H9.out.swap.setBlk 0 (.int .i64 1)).setBlk 1 (.string (mkS T))).setBlk 2 (.int .i64 0)).setBlk 3 (.int .i64 (p : Int)))
  simp only [List.setIfInBounds_toArray, List.set_cons_zero, List.set_cons_succ] at H3
  refine bodyPost_ret (results_aggL rfl _ _ N 30 _ _ rfl H3.blk Tryz.underlying30 rfl (by kernel_rfl)) rfl ?_
  have hgN := HGN.out
  have K3 := (((K9.out.setHi (b := N) (by omega) 0 (.int .i64 1)).setHi (b := N) (by omega) 1 (.string (mkS T))).setHi (b := N) (by omega) 2 (.int .i64 0)).setHi (b := N) (by omega) 3 (.int .i64 (p : Int))
  rw [HR.out]
  exact ⟨rfl, H3.drop, K3⟩
set_option maxRecDepth 100000 in
set_option maxHeartbeats 1000000 in
theorem token_num {S : Fp} {lst : List Ass} [Stable (Sep lst)] {w0 w : World} (g p : Nat) (s : ByteArray) (x : UInt8) (h : St S (ScA g s p :: lst) w0 w) (hp : p < s.size) (hs : s.size ≤ 1073741824) (hK : LxK g w) (hx : s[p]'hp = x) (hdr : (lS s).drop p = x :: (lS s).drop (p + 1)) (hw : lxL x = false) (hn : bgN (x :: (lS s).drop (p + 1)) = true) :
    Calls Tryz.prog 9 #[.pointer (some ⟨g, 0, none⟩)] w (TokW S lst w0 g s p (tokG p ((lS s).drop p))) := by
  obtain ⟨R, hR⟩ : ∃ R, R = tokG p ((lS s).drop p) := ⟨_, rfl⟩
  rw [← hR]
  rw [hdr] at hR
  obtain ⟨c0, c1, f1, g0⟩ := sc_cells h
  obtain ⟨N, hN⟩ : ∃ N, N = w.heap.size := ⟨_, rfl⟩
  have HNE := Lib.hid hN
  obtain ⟨W1, hW1⟩ : ∃ W1, W1 = w.alloc (.cells tkZ 30) := ⟨_, rfl⟩
  have HW1 := Lib.hid hW1
  obtain ⟨P, hP⟩ : ∃ P : World → Prop, P = fun wx => St S (ScA g s p :: BlkA N 30 tkZ :: lst) w0 wx ∧ LxK g wx := ⟨_, rfl⟩
  have HPP : ∀ wx, P wx → St S (ScA g s p :: BlkA N 30 tkZ :: lst) w0 wx ∧ LxK g wx := fun wx h => by rw [hP] at h; exact h
  have HS1 : Hid (∀ q, P (W1.drewN q)) := Lib.hid fun q => by
    rw [hP, hW1, hN]
    exact ⟨((h.newBlk 30 tkZ).swap).drewN q, (hK.below ((Below.refl _ _).alloc (Nat.le_refl _) _)).drewN q⟩
  have HGN : Hid (g < N) := Lib.hid (by rw [hN]; exact g0)
  have HL := Lib.hid (fun w => beginsWord_any x w)
  have HRS : Hid (∀ wx, P wx → Calls Tryz.prog 16 #[.pointer (some ⟨g, 0, none⟩)] wx fun e w' => e = .returned (.string (mkS (x :: (lS s).drop (p + 1)))) ∧ P w') := Lib.hid fun wx h => by
    have h1 := rest_any g p s (HPP wx h).1 (Nat.le_of_lt hp) hs
    rw [hdr] at h1
    rw [hP]
    exact h1.mono fun e w' ⟨h2, q', h3⟩ => ⟨h2, h3 ▸ (HPP wx h).1.drewN q', h3 ▸ (HPP wx h).2.drewN q'⟩
  have HBN : Hid (∀ w, Calls Tryz.prog 20 #[.string (mkS (x :: (lS s).drop (p + 1)))] w fun e w' => e = .returned (.bool true) ∧ w = w') := Lib.hid fun w => by
    have h1 := beginsNumber_any (x :: (lS s).drop (p + 1)) w
    rw [hn] at h1
    exact h1
  rw [hw] at HL
  have HNM : Hid (∀ wx, P wx → Calls Tryz.prog 21 #[.pointer (some ⟨g, 0, none⟩)] wx (TokW S (BlkA N 30 tkZ :: lst) w0 g s p R)) := Lib.hid fun wx h => by
    have e1 : x :: ((lS s).drop (p + 1)).takeWhile lxN = ((lS s).drop p).take (1 + (((lS s).drop (p + 1)).takeWhile lxN).length) := by rw [hdr, Nat.add_comm 1, List.take_succ_cons, tw_take]
    rw [hR, tok_num hw hn]
    exact number_any g p s (HPP wx h).1 hp hs (HPP wx h).2 _ _ rfl e1
  have i1 : (0 : Int) ≤ (p : Int) := by omega
  clear h hK hN hW1 hdr hR hP HPP
  go_enter Tryz.func9, Tryz.ntmps9
  go_wp2
  go_quiet (fail)
  go_wp2_with fail
  rw [← HW1.out, ← HNE.out]
  clear c0 c1 f1 g0
  refine (HL.out _).mono ?_
  rintro e w' ⟨rfl, rfl⟩
  go_wp2_with fail
  refine (HRS.out _ (HS1.out _)).mono ?_
  rintro e w2 ⟨rfl, p2⟩
  have HP2 := Lib.hid p2
  clear p2
  go_wp2_with fail
  refine (HBN.out _).mono ?_
  rintro e w' ⟨rfl, rfl⟩
  go_wp2_with fail
  refine (HNM.out _ HP2.out).mono ?_
  rintro e w9 h9'
  obtain ⟨a0, a1, a2, a3, E, q9, rfl, hq9, h9, k9⟩ := h9'.form
  have HQ9 := Lib.hid hq9
  clear h9' hq9
  obtain ⟨⟨d0, d1, d2, d3⟩, f0, l1⟩ := blk4 h9.swap
  have F0 := f0 0
  have F1 := f0 1
  have F2 := f0 2
  have F3 := f0 3
  have H9 := Lib.hid h9
  have K9 := Lib.hid k9
  clear h9 k9 f0
  go_wp2_with fail
  have H3 := ((((H9.out.swap.setBlk 0 (.int .i64 a0)).setBlk 1 (.string a1)).setBlk 2 (.int .i64 a2)).setBlk 3 (.int .i64 a3))
  simp only [List.setIfInBounds_toArray, List.set_cons_zero, List.set_cons_succ] at H3
  refine bodyPost_ret (results_aggL rfl _ _ N 30 _ _ rfl H3.blk Tryz.underlying30 rfl (by kernel_rfl)) rfl ?_
  have hgN := HGN.out
  have K3 := (((K9.out.setHi (b := N) (by omega) 0 (.int .i64 a0)).setHi (b := N) (by omega) 1 (.string a1)).setHi (b := N) (by omega) 2 (.int .i64 a2)).setHi (b := N) (by omega) 3 (.int .i64 a3)
  exact HQ9.out.back H3.drop K3
set_option maxRecDepth 100000 in
set_option maxHeartbeats 1000000 in
theorem token_text {S : Fp} {lst : List Ass} [Stable (Sep lst)] {w0 w : World} (g p : Nat) (s : ByteArray) (x : UInt8) (h : St S (ScA g s p :: lst) w0 w) (hp : p < s.size) (hs : s.size ≤ 1073741824) (hK : LxK g w) (hx : s[p]'hp = x) (hdr : (lS s).drop p = x :: (lS s).drop (p + 1)) (hw : lxL x = false) (hn : bgN (x :: (lS s).drop (p + 1)) = false) (h39 : x = 39) :
    Calls Tryz.prog 9 #[.pointer (some ⟨g, 0, none⟩)] w (TokW S lst w0 g s p (tokG p ((lS s).drop p))) := by
  obtain ⟨R, hR⟩ : ∃ R, R = tokG p ((lS s).drop p) := ⟨_, rfl⟩
  rw [← hR]
  rw [hdr] at hR
  obtain ⟨c0, c1, f1, g0⟩ := sc_cells h
  obtain ⟨N, hN⟩ : ∃ N, N = w.heap.size := ⟨_, rfl⟩
  have HNE := Lib.hid hN
  obtain ⟨W1, hW1⟩ : ∃ W1, W1 = w.alloc (.cells tkZ 30) := ⟨_, rfl⟩
  have HW1 := Lib.hid hW1
  obtain ⟨P, hP⟩ : ∃ P : World → Prop, P = fun wx => St S (ScA g s p :: BlkA N 30 tkZ :: lst) w0 wx ∧ LxK g wx := ⟨_, rfl⟩
  have HPP : ∀ wx, P wx → St S (ScA g s p :: BlkA N 30 tkZ :: lst) w0 wx ∧ LxK g wx := fun wx h => by rw [hP] at h; exact h
  have HS1 : Hid (∀ q, P (W1.drewN q)) := Lib.hid fun q => by
    rw [hP, hW1, hN]
    exact ⟨((h.newBlk 30 tkZ).swap).drewN q, (hK.below ((Below.refl _ _).alloc (Nat.le_refl _) _)).drewN q⟩
  have HGN : Hid (g < N) := Lib.hid (by rw [hN]; exact g0)
  have HL := Lib.hid (fun w => beginsWord_any x w)
  have HRS : Hid (∀ wx, P wx → Calls Tryz.prog 16 #[.pointer (some ⟨g, 0, none⟩)] wx fun e w' => e = .returned (.string (mkS (x :: (lS s).drop (p + 1)))) ∧ P w') := Lib.hid fun wx h => by
    have h1 := rest_any g p s (HPP wx h).1 (Nat.le_of_lt hp) hs
    rw [hdr] at h1
    rw [hP]
    exact h1.mono fun e w' ⟨h2, q', h3⟩ => ⟨h2, h3 ▸ (HPP wx h).1.drewN q', h3 ▸ (HPP wx h).2.drewN q'⟩
  have HBN : Hid (∀ w, Calls Tryz.prog 20 #[.string (mkS (x :: (lS s).drop (p + 1)))] w fun e w' => e = .returned (.bool false) ∧ w = w') := Lib.hid fun w => by
    have h1 := beginsNumber_any (x :: (lS s).drop (p + 1)) w
    rw [hn] at h1
    exact h1
  rw [hw] at HL
  have b39 : ((x.toNat : Int) == 39) = true := by rw [h39]; decide
  have HQT : Hid (∀ wx, P wx → Calls Tryz.prog 22 #[.pointer (some ⟨g, 0, none⟩)] wx (TokW S (BlkA N 30 tkZ :: lst) w0 g s p R)) := Lib.hid fun wx h => by
    rw [hR, h39, tok_text]
    exact quoted_any g p s (HPP wx h).1 hp hs (HPP wx h).2
  clear h39
  have i1 : (0 : Int) ≤ (p : Int) := by omega
  clear h hK hN hW1 hdr hR hP HPP
  go_enter Tryz.func9, Tryz.ntmps9
  go_wp2
  go_quiet (fail)
  go_wp2_with fail
  rw [← HW1.out, ← HNE.out]
  clear c0 c1 f1 g0
  refine (HL.out _).mono ?_
  rintro e w' ⟨rfl, rfl⟩
  go_wp2_with fail
  refine (HRS.out _ (HS1.out _)).mono ?_
  rintro e w2 ⟨rfl, p2⟩
  have HP2 := Lib.hid p2
  clear p2
  go_wp2_with fail
  refine (HBN.out _).mono ?_
  rintro e w' ⟨rfl, rfl⟩
  go_wp2_with fail
  refine (HQT.out _ HP2.out).mono ?_
  rintro e w9 h9'
  obtain ⟨a0, a1, a2, a3, E, q9, rfl, hq9, h9, k9⟩ := h9'.form
  have HQ9 := Lib.hid hq9
  clear h9' hq9
  obtain ⟨⟨d0, d1, d2, d3⟩, f0, l1⟩ := blk4 h9.swap
  have F0 := f0 0
  have F1 := f0 1
  have F2 := f0 2
  have F3 := f0 3
  have H9 := Lib.hid h9
  have K9 := Lib.hid k9
  clear h9 k9 f0
  go_wp2_with fail
  have H3 := ((((H9.out.swap.setBlk 0 (.int .i64 a0)).setBlk 1 (.string a1)).setBlk 2 (.int .i64 a2)).setBlk 3 (.int .i64 a3))
  simp only [List.setIfInBounds_toArray, List.set_cons_zero, List.set_cons_succ] at H3
  refine bodyPost_ret (results_aggL rfl _ _ N 30 _ _ rfl H3.blk Tryz.underlying30 rfl (by kernel_rfl)) rfl ?_
  have hgN := HGN.out
  have K3 := (((K9.out.setHi (b := N) (by omega) 0 (.int .i64 a0)).setHi (b := N) (by omega) 1 (.string a1)).setHi (b := N) (by omega) 2 (.int .i64 a2)).setHi (b := N) (by omega) 3 (.int .i64 a3)
  exact HQ9.out.back H3.drop K3
set_option maxRecDepth 100000 in
set_option maxHeartbeats 1000000 in
theorem token_mark {S : Fp} {lst : List Ass} [Stable (Sep lst)] {w0 w : World} (g p : Nat) (s : ByteArray) (x : UInt8) (h : St S (ScA g s p :: lst) w0 w) (hp : p < s.size) (hs : s.size ≤ 1073741824) (hK : LxK g w) (hx : s[p]'hp = x) (hdr : (lS s).drop p = x :: (lS s).drop (p + 1)) (hw : lxL x = false) (hn : bgN (x :: (lS s).drop (p + 1)) = false) (h39 : x ≠ 39) :
    Calls Tryz.prog 9 #[.pointer (some ⟨g, 0, none⟩)] w (TokW S lst w0 g s p (tokG p ((lS s).drop p))) := by
  obtain ⟨R, hR⟩ : ∃ R, R = tokG p ((lS s).drop p) := ⟨_, rfl⟩
  rw [← hR]
  rw [hdr] at hR
  obtain ⟨c0, c1, f1, g0⟩ := sc_cells h
  obtain ⟨N, hN⟩ : ∃ N, N = w.heap.size := ⟨_, rfl⟩
  have HNE := Lib.hid hN
  obtain ⟨W1, hW1⟩ : ∃ W1, W1 = w.alloc (.cells tkZ 30) := ⟨_, rfl⟩
  have HW1 := Lib.hid hW1
  obtain ⟨P, hP⟩ : ∃ P : World → Prop, P = fun wx => St S (ScA g s p :: BlkA N 30 tkZ :: lst) w0 wx ∧ LxK g wx := ⟨_, rfl⟩
  have HPP : ∀ wx, P wx → St S (ScA g s p :: BlkA N 30 tkZ :: lst) w0 wx ∧ LxK g wx := fun wx h => by rw [hP] at h; exact h
  have HS1 : Hid (∀ q, P (W1.drewN q)) := Lib.hid fun q => by
    rw [hP, hW1, hN]
    exact ⟨((h.newBlk 30 tkZ).swap).drewN q, (hK.below ((Below.refl _ _).alloc (Nat.le_refl _) _)).drewN q⟩
  have HGN : Hid (g < N) := Lib.hid (by rw [hN]; exact g0)
  have HL := Lib.hid (fun w => beginsWord_any x w)
  have HRS : Hid (∀ wx, P wx → Calls Tryz.prog 16 #[.pointer (some ⟨g, 0, none⟩)] wx fun e w' => e = .returned (.string (mkS (x :: (lS s).drop (p + 1)))) ∧ P w') := Lib.hid fun wx h => by
    have h1 := rest_any g p s (HPP wx h).1 (Nat.le_of_lt hp) hs
    rw [hdr] at h1
    rw [hP]
    exact h1.mono fun e w' ⟨h2, q', h3⟩ => ⟨h2, h3 ▸ (HPP wx h).1.drewN q', h3 ▸ (HPP wx h).2.drewN q'⟩
  have HBN : Hid (∀ w, Calls Tryz.prog 20 #[.string (mkS (x :: (lS s).drop (p + 1)))] w fun e w' => e = .returned (.bool false) ∧ w = w') := Lib.hid fun w => by
    have h1 := beginsNumber_any (x :: (lS s).drop (p + 1)) w
    rw [hn] at h1
    exact h1
  rw [hw] at HL
  have b39 : ((x.toNat : Int) == 39) = false := by rw [beq_eq_false_iff_ne]; intro e; exact h39 (UInt8.toNat_inj.1 (by show x.toNat = 39; omega))
  have HMK : Hid (∀ wx, P wx → Calls Tryz.prog 23 #[.pointer (some ⟨g, 0, none⟩)] wx (TokW S (BlkA N 30 tkZ :: lst) w0 g s p R)) := Lib.hid fun wx h => by
    rw [hR, tok_mark hw hn h39, ← hdr]
    exact mark_any g p s (HPP wx h).1 hp hs (HPP wx h).2
  have i1 : (0 : Int) ≤ (p : Int) := by omega
  clear h hK hN hW1 hdr hR hP HPP
  go_enter Tryz.func9, Tryz.ntmps9
  go_wp2
  go_quiet (fail)
  go_wp2_with fail
  rw [← HW1.out, ← HNE.out]
  clear c0 c1 f1 g0
  refine (HL.out _).mono ?_
  rintro e w' ⟨rfl, rfl⟩
  go_wp2_with fail
  refine (HRS.out _ (HS1.out _)).mono ?_
  rintro e w2 ⟨rfl, p2⟩
  have HP2 := Lib.hid p2
  clear p2
  go_wp2_with fail
  refine (HBN.out _).mono ?_
  rintro e w' ⟨rfl, rfl⟩
  go_wp2_with fail
  refine (HMK.out _ HP2.out).mono ?_
  rintro e w9 h9'
  obtain ⟨a0, a1, a2, a3, E, q9, rfl, hq9, h9, k9⟩ := h9'.form
  have HQ9 := Lib.hid hq9
  clear h9' hq9
  obtain ⟨⟨d0, d1, d2, d3⟩, f0, l1⟩ := blk4 h9.swap
  have F0 := f0 0
  have F1 := f0 1
  have F2 := f0 2
  have F3 := f0 3
  have H9 := Lib.hid h9
  have K9 := Lib.hid k9
  clear h9 k9 f0
  go_wp2_with fail
  have H3 := ((((H9.out.swap.setBlk 0 (.int .i64 a0)).setBlk 1 (.string a1)).setBlk 2 (.int .i64 a2)).setBlk 3 (.int .i64 a3))
  simp only [List.setIfInBounds_toArray, List.set_cons_zero, List.set_cons_succ] at H3
  refine bodyPost_ret (results_aggL rfl _ _ N 30 _ _ rfl H3.blk Tryz.underlying30 rfl (by kernel_rfl)) rfl ?_
  have hgN := HGN.out
  have K3 := (((K9.out.setHi (b := N) (by omega) 0 (.int .i64 a0)).setHi (b := N) (by omega) 1 (.string a1)).setHi (b := N) (by omega) 2 (.int .i64 a2)).setHi (b := N) (by omega) 3 (.int .i64 a3)
  exact HQ9.out.back H3.drop K3
theorem token_any {S : Fp} {lst : List Ass} [Stable (Sep lst)] {w0 w : World} (g p : Nat) (s : ByteArray) (h : St S (ScA g s p :: lst) w0 w) (hp : p < s.size) (hs : s.size ≤ 1073741824) (hK : LxK g w) :
    Calls Tryz.prog 9 #[.pointer (some ⟨g, 0, none⟩)] w (TokW S lst w0 g s p (tokG p ((lS s).drop p))) := by
  obtain ⟨x, hx, hdr⟩ := sc_at s p hp
  cases hw : lxL x with
  | true => exact token_word g p s x h hp hs hK hx hdr hw
  | false =>
    cases hn : bgN (x :: (lS s).drop (p + 1)) with
    | true => exact token_num g p s x h hp hs hK hx hdr hw hn
    | false =>
      by_cases h39 : x = 39
      · exact token_text g p s x h hp hs hK hx hdr hw hn h39
      · exact token_mark g p s x h hp hs hK hx hdr hw hn h39
end Go.Proofs.YthmgkjfohkadoaaGreatDoor
