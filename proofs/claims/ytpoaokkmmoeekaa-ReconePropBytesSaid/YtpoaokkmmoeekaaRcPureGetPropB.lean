/- A property's bytes: what the program's reading finds. -/
import Derived.Test.YtpoaokkmmoeekaaRcPureGetProp
namespace Go.Proofs.Ytpoaokkmmoeekaa
open Go.RowKit
set_option linter.unusedVariables false

theorem blobQ_left (q : Cs × Bool) (hs : q.1.isw = false) (nu bl : Int) (k : Nat) (h : (blobQ q nu bl).1.left k) : q.1.left (k + 8) := by
  have ib : (blobQ1 q).1.isw = false := by unfold blobQ1; rw [fld_isw]; exact hs
  have a := (fld_left (blobQ1 q) ib 4 (by decide) (-1) 65536 bl k).1 h
  exact (fld_left q hs 4 (by decide) 0 1 0 (k + 4)).1 a
theorem bitsQ_left (q : Cs × Bool) (hs : q.1.isw = false) (nu bl : Int) (k : Nat) (h : (bitsQ q nu bl).1.left k) : q.1.left (k + 8) := (aft_left q.1 hs 8 (by decide) (uIn nu) k).1 h
theorem propQ3_left (q : Cs × Bool) (hs : q.1.isw = false) (x : PropC) (k : Nat) (h : (propQ3 q x).1.left k) : q.1.left (k + 3) := by
  have i1 : (propQ1 q x).1.isw = false := by unfold propQ1; rw [fld_isw]; exact hs
  have a := (fld_left (propQ1 q x) i1 1 (by decide) 0 9 x.kd k).1 h
  exact (fld_left q hs 2 (by decide) 0 200 x.ky (k + 1)).1 a
theorem propQ4_left (q : Cs × Bool) (hs : q.1.isw = false) (x : PropC) (k : Nat) (h : (propQ4 q x).1.left k) : q.1.left (k + 11) := by
  have i3 : (propQ3 q x).1.isw = false := by rw [propQ3_isw]; exact hs
  refine propQ3_left q hs x (k + 8) ?_
  unfold propQ4 at h
  split at h
  · exact blobQ_left _ i3 _ _ _ h
  · exact bitsQ_left _ i3 _ _ _ h
theorem propQ_left (q : Cs × Bool) (hs : q.1.isw = false) (x : PropC) (k : Nat) (h : (propQ q x).1.left k) : q.1.left (k + 19) := by
  have i4 : (propQ4 q x).1.isw = false := by rw [propQ4_isw]; exact hs
  have i5 : (propQ5 q x).1.isw = false := by unfold propQ5; rw [fld_isw]; exact i4
  have a := (fld_left (propQ5 q x) i5 4 (by decide) (-1) 65536 x.nx k).1 h
  have b := (fld_left (propQ4 q x) i4 4 (by decide) (-1) 65536 x.pv (k + 4)).1 a
  exact propQ4_left q hs x (k + 8) b
theorem propQ_four (q : Cs × Bool) (hq : q.1.isw = false) (x : PropC) (hn : ¬ q.1.left 19) : (propQ q x).1.endE (propQ q x).2 = 4 :=
  endE_left _ (by rw [propQ_isw]; exact hq) _ fun hl => hn (propQ_left q hq x 0 hl)
theorem getProp_len (bs : List Nat) (h : bs.length ≠ 19) : getPropE bs = 4 := propQ_four (.r bs 0, false) rfl zP (fun hh => h hh.2)

theorem zero_in {n : Nat} : inR 0 1 ((0 : Int) + n) = decide (n = 0) := by
  rw [Bool.eq_iff_iff]
  simp only [inR, Bool.and_eq_true, decide_eq_true_eq]
  omega
theorem neg_add (n : Nat) : (-1 : Int) + n = (n : Int) - 1 := by omega
theorem zero_add' (n : Nat) : (0 : Int) + n = (n : Int) := by omega

theorem in_kind (z : Int) : (inR 0 9 z && decide (1 ≤ z)) = inR 1 9 z := by
  rw [Bool.eq_iff_iff]
  simp only [inR, Bool.and_eq_true, decide_eq_true_eq]
  omega
theorem in_kind4 {z : Int} (h : ¬ z < 4) : inR 0 9 z = inR 1 9 z := by unfold inR; rw [decide_eq_true (by omega : (0 : Int) ≤ z), decide_eq_true (by omega : (1 : Int) ≤ z)]
theorem one_le4 {z : Int} (h : ¬ z < 4) : decide (1 ≤ z) = true := decide_eq_true (by omega)
theorem in_blob (z : Int) : (inR (-1) 65536 z && decide (z ≠ -1)) = inR 0 65536 z := by
  rw [Bool.eq_iff_iff]
  simp only [inR, Bool.and_eq_true, decide_eq_true_eq]
  omega
set_option maxRecDepth 10000 in
theorem getProp_read (bs : List Nat) (hb : IsBytes bs) (h : bs.length = 19) : getPropE bs = (if (refPropOk (propC bs) && zeroP bs) = true then 0 else 41) ∧ ((refPropOk (propC bs) && zeroP bs) = true → getPropV bs = propC bs) := by
  obtain ⟨p1, p2, p3, p4⟩ := propCut bs hb h
  have g0 : 0 + 2 ≤ bs.length := by omega
  have g1 : 2 + 1 ≤ bs.length := by omega
  have g2 : 3 + 4 ≤ bs.length := by omega
  have g3 : 7 + 4 ≤ bs.length := by omega
  have g4 : 11 + 4 ≤ bs.length := by omega
  have g5 : 15 + 4 ≤ bs.length := by omega
  have hl8 : ((bs.take 11).drop 3).length = 8 := by rw [List.length_drop, List.length_take]; omega
  have k0 := out_low 2 _ (by decide) 0 (by decide) (atN_pow bs hb 0 2 g0)
  have k1 := out_low 1 _ (by decide) 0 (by decide) (atN_pow bs hb 2 1 g1)
  have k2 := out_low 4 _ (by decide) 0 (by decide) (atN_pow bs hb 3 4 g2)
  have k3 := out_low 4 _ (by decide) (-1) (by decide) (atN_pow bs hb 7 4 g3)
  have k4 := out_low 4 _ (by decide) (-1) (by decide) (atN_pow bs hb 11 4 g4)
  have k5 := out_low 4 _ (by decide) (-1) (by decide) (atN_pow bs hb 15 4 g5)
  rw [zero_add'] at k0 k1
  rw [neg_add] at k3 k4 k5
  have h8 : num8 bs < 256 ^ 8 := by
    have := be_all ((bs.take 11).drop 3) ((hb.take _).drop _)
    rw [hl8] at this
    exact this
  have k8 : lowN 8 (num8 bs) = num8 bs := Nat.mod_eq_of_lt h8
  have hC : propC bs = if ((atN bs 2 1 : Nat) : Int) < 4 then ⟨(atN bs 0 2 : Nat), (atN bs 2 1 : Nat), wrap64 (num8 bs : Nat), -1, (atN bs 11 4 : Nat) - 1, (atN bs 15 4 : Nat) - 1⟩
    else ⟨(atN bs 0 2 : Nat), (atN bs 2 1 : Nat), 0, (atN bs 7 4 : Nat) - 1, (atN bs 11 4 : Nat) - 1, (atN bs 15 4 : Nat) - 1⟩ := rfl
  have hZ : zeroP bs = (decide (((atN bs 2 1 : Nat) : Int) < 4) || decide (atN bs 3 4 = 0)) := rfl
  rw [hC, hZ]
  unfold getPropE getPropV getPropQ
  show ((propQ (.r bs 0, false) zP).1.endE (propQ (.r bs 0, false) zP).2 = _) ∧ (_ → propV (.r bs 0, false) zP = _)
  obtain ⟨R3, hR3⟩ : ∃ R, R = bs.drop 3 := ⟨_, rfl⟩
  obtain ⟨R11, hR11⟩ : ∃ R, R = bs.drop 11 := ⟨_, rfl⟩
  rw [← hR3] at p1 p2 p3
  rw [← hR11] at p2 p3 p4
  obtain ⟨n0, hn0⟩ : ∃ n, n = atN bs 0 2 := ⟨_, rfl⟩
  obtain ⟨n1, hn1⟩ : ∃ n, n = atN bs 2 1 := ⟨_, rfl⟩
  obtain ⟨n2, hn2⟩ : ∃ n, n = atN bs 3 4 := ⟨_, rfl⟩
  obtain ⟨n3, hn3⟩ : ∃ n, n = atN bs 7 4 := ⟨_, rfl⟩
  obtain ⟨n4, hn4⟩ : ∃ n, n = atN bs 11 4 := ⟨_, rfl⟩
  obtain ⟨n5, hn5⟩ : ∃ n, n = atN bs 15 4 := ⟨_, rfl⟩
  obtain ⟨n8, hn8⟩ : ∃ n, n = num8 bs := ⟨_, rfl⟩
  rw [← hn0] at k0 p1 ⊢
  rw [← hn1] at k1 p1 ⊢
  rw [← hn2] at k2 p2 ⊢
  rw [← hn3] at k3 p2 ⊢
  rw [← hn4] at k4 p4 ⊢
  rw [← hn5] at k5 p4 ⊢
  rw [← hn8] at k8 p3 ⊢
  rw [p1]
  clear hn0 hn1 hn2 hn3 hn4 hn5 hn8 hR3 hR11 h8 hC hZ p1 hb h
  have e1 : propQ1 (.r (putNum 2 n0 ++ (putNum 1 n1 ++ R3)) 0, false) zP = (.r (putNum 1 n1 ++ R3) 0, false || !inR 0 200 (n0 : Int)) := by
    refine (fld_r 2 (by decide) _ _ _ _ _ _).trans ?_
    rw [k0]
  have v0 : fval (.r (putNum 2 n0 ++ (putNum 1 n1 ++ R3)) 0, false) 2 0 zP.ky = (n0 : Int) := (fval_r 2 (by decide) _ _ _ _ _).trans k0
  have e2 : propQ2 (.r (putNum 2 n0 ++ (putNum 1 n1 ++ R3)) 0, false) zP = (.r R3 0, (false || !inR 0 200 (n0 : Int)) || !inR 0 9 (n1 : Int)) := by
    unfold propQ2
    rw [e1]
    refine (fld_r 1 (by decide) _ _ _ _ _ _).trans ?_
    rw [k1]
  have eK : propK (.r (putNum 2 n0 ++ (putNum 1 n1 ++ R3)) 0, false) zP = (n1 : Int) := by
    unfold propK
    rw [e1]
    exact (fval_r 1 (by decide) _ _ _ _ _).trans k1
  obtain ⟨W3, hW3⟩ : ∃ W, W = (((false || !inR 0 200 (n0 : Int)) || !inR 0 9 (n1 : Int)) || !decide (1 ≤ (n1 : Int))) := ⟨_, rfl⟩
  have e3 : propQ3 (.r (putNum 2 n0 ++ (putNum 1 n1 ++ R3)) 0, false) zP = (.r R3 0, W3) := by
    unfold propQ3
    rw [e2, eK, hW3]
  have fin : ∀ (W4 : Bool) (nu bl : Int), propQ4 (.r (putNum 2 n0 ++ (putNum 1 n1 ++ R3)) 0, false) zP = (.r R11 0, W4) → propN (.r (putNum 2 n0 ++ (putNum 1 n1 ++ R3)) 0, false) zP = nu → propB (.r (putNum 2 n0 ++ (putNum 1 n1 ++ R3)) 0, false) zP = bl →
      propQ (.r (putNum 2 n0 ++ (putNum 1 n1 ++ R3)) 0, false) zP = (.r [] 0, (W4 || !inR (-1) 65536 ((n4 : Int) - 1)) || !inR (-1) 65536 ((n5 : Int) - 1)) ∧ propV (.r (putNum 2 n0 ++ (putNum 1 n1 ++ R3)) 0, false) zP = ⟨n0, n1, nu, bl, (n4 : Int) - 1, (n5 : Int) - 1⟩ := by
    intro W4 nu bl e4 eN eB
    have e5 : propQ5 (.r (putNum 2 n0 ++ (putNum 1 n1 ++ R3)) 0, false) zP = (.r (putNum 4 n5 ++ []) 0, W4 || !inR (-1) 65536 ((n4 : Int) - 1)) := by
      unfold propQ5
      rw [e4, p4]
      refine (fld_r 4 (by decide) _ _ _ _ _ _).trans ?_
      rw [k4]
    have v4 : fval (propQ4 (.r (putNum 2 n0 ++ (putNum 1 n1 ++ R3)) 0, false) zP) 4 (-1) zP.pv = (n4 : Int) - 1 := by
      rw [e4, p4]
      exact (fval_r 4 (by decide) _ _ _ _ _).trans k4
    have v5 : fval (propQ5 (.r (putNum 2 n0 ++ (putNum 1 n1 ++ R3)) 0, false) zP) 4 (-1) zP.nx = (n5 : Int) - 1 := by
      rw [e5]
      exact (fval_r 4 (by decide) _ _ _ _ _).trans k5
    constructor
    · unfold propQ
      rw [e5]
      refine (fld_r 4 (by decide) _ _ _ _ _ _).trans ?_
      rw [k5]
    · unfold propV
      rw [v0, eK, eN, eB, v4, v5]
  by_cases hk : (n1 : Int) < 4
  · have q4 : propQ4 (.r (putNum 2 n0 ++ (putNum 1 n1 ++ R3)) 0, false) zP = (.r R11 0, W3 || !true) := by
      unfold propQ4
      rw [eK, if_neg (k_lt hk), e3, p3]
      unfold bitsQ
      have a1 : (Cs.r (putNum 8 n8 ++ R11) 0).aft 8 (uIn zP.nu) = .r R11 0 := aft_r 8 (by decide) n8 (uIn zP.nu) R11
      have d1 : decide (zP.bl = -1) = true := by decide
      rw [d1]
      show ((Cs.r (putNum 8 n8 ++ R11) 0).aft 8 (uIn zP.nu), W3 || !true) = _
      rw [a1]
    have qN : propN (.r (putNum 2 n0 ++ (putNum 1 n1 ++ R3)) 0, false) zP = wrap64 (n8 : Int) := by
      unfold propN
      rw [eK, if_neg (k_lt hk), e3, p3]
      unfold bitsV
      have a1 : (Cs.r (putNum 8 n8 ++ R11) 0).num 8 (uIn zP.nu) = lowN 8 n8 := num_r 8 (by decide) n8 (uIn zP.nu) R11
      show wrap64 (((Cs.r (putNum 8 n8 ++ R11) 0).num 8 (uIn zP.nu) : Nat) : Int) = _
      rw [a1, k8]
    have qB : propB (.r (putNum 2 n0 ++ (putNum 1 n1 ++ R3)) 0, false) zP = -1 := by
      unfold propB
      rw [eK, if_neg (k_lt hk)]
      rfl
    obtain ⟨f1, f2⟩ := fin _ _ _ q4 qN qB
    rw [f1, f2, if_pos hk, decide_eq_true hk]
    refine ⟨?_, fun _ => rfl⟩
    have h2 := in_kind (n1 : Int)
    rw [hW3]
    unfold refPropOk Cs.endE
    simp only [hk, if_true, ← h2]
    cases inR 0 200 (n0 : Int) <;> cases inR 0 9 (n1 : Int) <;> cases decide (1 ≤ (n1 : Int)) <;> cases inR (-1) 65536 ((n4 : Int) - 1) <;> cases inR (-1) 65536 ((n5 : Int) - 1) <;> rfl
  · have b1 : blobQ1 (.r R3 0, W3) = (.r (putNum 4 n3 ++ R11) 0, W3 || !decide (n2 = 0)) := by
      rw [p2]
      refine (fld_r 4 (by decide) _ _ _ _ _ _).trans ?_
      rw [k2, zero_in]
    have b2 : blobV (.r R3 0, W3) zP.bl = (n3 : Int) - 1 := by
      unfold blobV
      rw [b1]
      exact (fval_r 4 (by decide) _ _ _ _ _).trans k3
    have b3 : fld (.r (putNum 4 n3 ++ R11) 0, W3 || !decide (n2 = 0)) 4 (-1) 65536 zP.bl = (.r R11 0, (W3 || !decide (n2 = 0)) || !inR (-1) 65536 ((n3 : Int) - 1)) := by
      refine (fld_r 4 (by decide) _ _ _ _ _ _).trans ?_
      rw [k3]
    have q4 : propQ4 (.r (putNum 2 n0 ++ (putNum 1 n1 ++ R3)) 0, false) zP = (.r R11 0, ((W3 || !decide (n2 = 0)) || !inR (-1) 65536 ((n3 : Int) - 1)) || !(decide ((n3 : Int) - 1 ≠ -1) && true)) := by
      unfold propQ4
      rw [eK, if_pos (k_ge hk), e3]
      unfold blobQ
      have d2 : decide (zP.nu = 0) = true := by decide
      rw [b2, b1, b3, d2]
    have qN : propN (.r (putNum 2 n0 ++ (putNum 1 n1 ++ R3)) 0, false) zP = 0 := by
      unfold propN
      rw [eK, if_pos (k_ge hk)]
      rfl
    have qB : propB (.r (putNum 2 n0 ++ (putNum 1 n1 ++ R3)) 0, false) zP = (n3 : Int) - 1 := by
      unfold propB
      rw [eK, if_pos (k_ge hk), e3, b2]
    obtain ⟨f1, f2⟩ := fin _ _ _ q4 qN qB
    rw [f1, f2, if_neg hk, decide_eq_false hk]
    refine ⟨?_, fun _ => rfl⟩
    have h1 := one_le4 hk
    have h2 := in_kind4 hk
    have h3 := in_blob ((n3 : Int) - 1)
    rw [hW3]
    unfold refPropOk Cs.endE
    simp only [hk, if_false, h1, h2, ← h3]
    cases inR 0 200 (n0 : Int) <;> cases inR 1 9 (n1 : Int) <;> cases inR (-1) 65536 ((n4 : Int) - 1) <;> cases inR (-1) 65536 ((n5 : Int) - 1) <;> cases inR (-1) 65536 ((n3 : Int) - 1) <;> cases decide ((n3 : Int) - 1 ≠ -1) <;> cases decide (n2 = 0) <;> rfl
end Go.Proofs.Ytpoaokkmmoeekaa
