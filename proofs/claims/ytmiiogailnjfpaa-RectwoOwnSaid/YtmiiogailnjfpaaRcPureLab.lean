/- Eight bytes of labels, whatever they are: pure. -/
import Derived.Test.YtmiiogailnjfpaaRcPureNodeB
import Derived.Test.YtmiiogailnjfpaaRcPureA
namespace Go.Proofs.Ytmiiogailnjfpaa
open Go.RowKit
set_option linter.unusedVariables false

/-! ### Labels with something behind them -/
theorem labS_rT (Q : List Int) (T : List Nat) (P : List Int) : ∀ k, k ≤ Q.length → labS (.r (Q.map labN ++ T) 0) P k = .r ((Q.drop k).map labN ++ T) 0
  | 0, _ => by simp [labS]
  | k + 1, h => by
    unfold labS
    rw [labS_rT Q T P k (by omega), dropI (by omega), List.map_cons, List.cons_append, labN_cons]
    exact aft_r 1 (by decide) _ _ _
theorem labV_rT (Q : List Int) (T : List Nat) (hQ : ∀ x ∈ Q, inR (-1) 200 x = true) (P : List Int) (k : Nat) (h : k < Q.length) : labV (.r (Q.map labN ++ T) 0) P k = nthI Q k := by
  unfold labV
  rw [labS_rT Q T P k (by omega), dropI h, List.map_cons, List.cons_append, labN_cons]
  have hb := back 1 (by decide) (-1) 200 (nthI Q k) (hQ _ (by rw [nthI_lt h]; exact List.getElem_mem h)) (by decide) (by decide) (by decide)
  exact (fval_r 1 (by decide) _ _ false _ _).trans hb
theorem labW_rT (Q : List Int) (T : List Nat) (hQ : ∀ x ∈ Q, inR (-1) 200 x = true) (P : List Int) (w : Bool) : ∀ k, k ≤ Q.length → labW (.r (Q.map labN ++ T) 0) w P k = w
  | 0, _ => rfl
  | k + 1, h => by
    unfold labW
    rw [labW_rT Q T hQ P w k (by omega), labV_rT Q T hQ P k (by omega), hQ _ (by rw [nthI_lt (by omega)]; exact List.getElem_mem (by omega))]
    simp
theorem labL_rkT (Q : List Int) (T : List Nat) (hQ : ∀ x ∈ Q, inR (-1) 200 x = true) (P : List Int) : ∀ k, k ≤ Q.length → labL (.r (Q.map labN ++ T) 0) P k = Q.take k
  | 0, _ => by simp [labL]
  | k + 1, h => by rw [labL_succ, labL_rkT Q T hQ P k (by omega), labV_rT Q T hQ P k (by omega), takeI_succ (by omega)]
/-- right labels, read where more stands behind them -/
theorem lab_back (L : List Int) (o3 : labR L = true) (T : List Nat) : labS (.r (labB L ++ T) 0) (pl8 []) 8 = .r T 0 ∧ labWr (.r (labB L ++ T) 0) false [] = false ∧ labL (.r (labB L ++ T) 0) (pl8 []) 8 = pl8 L := by
  have hQ := pl8_in L o3
  have h8 := pl8_length L
  have eL : labL (.r (labB L ++ T) 0) (pl8 []) 8 = pl8 L := by
    have := labL_rkT (pl8 L) T hQ (pl8 []) 8 (by omega)
    rw [List.take_of_length_le (by omega)] at this
    exact this
  have eS : labS (.r (labB L ++ T) 0) (pl8 []) 8 = .r T 0 := by
    have := labS_rT (pl8 L) T (pl8 []) 8 (by omega)
    rw [List.drop_of_length_le (by omega)] at this
    exact this
  have eW : labW (.r (labB L ++ T) 0) false (pl8 []) 8 = false := labW_rT (pl8 L) T hQ (pl8 []) false 8 (by omega)
  have eO : labOut (.r (labB L ++ T) 0) [] = L := by
    unfold labOut
    rw [if_neg (by simp [Cs.isw]), eL]
    exact pl8_take L o3
  refine ⟨eS, ?_, eL⟩
  unfold labWr
  rw [eW, eO]
  unfold labR at o3
  simp only [Bool.and_eq_true, decide_eq_true_eq] at o3
  have h9 : decide (L.length ≤ 8) = true := decide_eq_true (by omega)
  have ha : asc (-1) L = true := by
    have := okTo_eq L (-1) (by omega)
    rw [o3.1] at this
    simp only [Bool.and_eq_true] at this
    exact this.2
  rw [h9, ha]
  rfl
theorem lab_w (B : List Nat) (w : Bool) (L : List Int) (hL : ∀ x ∈ L, isI x) : labS (.w B) (pl8 L) 8 = .w (B ++ labB L) ∧ labWr (.w B) w L = (w || !labR L) := by
  have h8 : (8 : Nat) ≤ (pl8 L).length := by rw [pl8_length]; omega
  constructor
  · rw [labS_w _ _ 8 h8, List.take_of_length_le (by rw [pl8_length]; omega)]
    rfl
  · unfold labWr labOut
    have hw : (Cs.w B).isw = true := rfl
    rw [labW_w _ _ _ (pl8_isI L hL) 8 h8, List.take_of_length_le (by rw [pl8_length]; omega), if_pos hw]
    unfold labR
    by_cases hl : L.length ≤ 8
    · rw [pl8_all L hl, ← okTo_eq L (-1) (by omega), decide_eq_true hl, decide_eq_true (by omega : L.length < 9)]
      cases w <;> cases L.all (inR (-1) 200) <;> cases asc (-1) L <;> rfl
    · rw [decide_eq_false hl, decide_eq_false (by omega : ¬ L.length < 9)]
      cases w <;> cases (pl8 L).all (inR (-1) 200) <;> cases okTo (-1) L <;> rfl

/-- a label's number out of its byte -/
def byteI (b : Nat) : Int := (b : Int) - 1
/-- the labels ahead of the first byte that is none -/
def firstP : List Nat → List Int
  | [] => []
  | b :: r => if b = 0 then [] else byteI b :: firstP r
theorem labN_byteI (b : Nat) (h : b < 256) : labN (byteI b) = b := by
  unfold labN byteI
  rw [← fIn_one, fIn_pred b (by omega)]
  exact Nat.mod_eq_of_lt h
theorem byteI_labN (x : Int) (h : inR (-1) 200 x = true) : byteI (labN x) = x := by
  rw [inR_iff] at h
  obtain ⟨n, hn⟩ := Int.eq_ofNat_of_zero_le (by omega : 0 ≤ x + 1)
  have hx : x = byteI n := by unfold byteI; omega
  rw [hx, labN_byteI n (by omega)]
theorem byte_cons (b : Nat) (h : b < 256) (R : List Nat) : b :: R = putNum ((1 : Nat) : Int) b ++ R := by
  rw [show putNum ((1 : Nat) : Int) b = [b % 256] from putNum_one b, Nat.mod_eq_of_lt h]
  rfl
theorem labS_q (Q T : List Nat) (hb : IsBytes Q) (P : List Int) : ∀ k, k ≤ Q.length → labS (.r (Q ++ T) 0) P k = .r (Q.drop k ++ T) 0
  | 0, _ => by simp [labS]
  | k + 1, h => by
    unfold labS
    rw [labS_q Q T hb P k (by omega), drop_nth Q k (by omega), List.cons_append, byte_cons _ (hb.nth k)]
    exact aft_r 1 (by decide) _ _ _
theorem labV_q (Q T : List Nat) (hb : IsBytes Q) (P : List Int) (k : Nat) (h : k < Q.length) : labV (.r (Q ++ T) 0) P k = byteI (nth Q k) := by
  unfold labV
  rw [labS_q Q T hb P k (by omega), drop_nth Q k h, List.cons_append, byte_cons _ (hb.nth k)]
  have h2 := out_low 1 (nth Q k) (by decide) (-1) (by decide) (hb.nth k)
  refine (show _ = fOut (lowN 1 (nth Q k)) (-1) from fval_r 1 (by decide) _ _ false _ _).trans (h2.trans ?_)
  unfold byteI
  omega
theorem labL_q (Q T : List Nat) (hb : IsBytes Q) (P : List Int) : ∀ k, k ≤ Q.length → labL (.r (Q ++ T) 0) P k = (Q.take k).map byteI
  | 0, _ => by simp [labL]
  | k + 1, h => by rw [labL_succ, labL_q Q T hb P k (by omega), labV_q Q T hb P k (by omega), take_succ_nth Q k (by omega), List.map_append]; rfl
theorem labW_q (Q T : List Nat) (hb : IsBytes Q) (P : List Int) (w : Bool) : ∀ k, k ≤ Q.length → labW (.r (Q ++ T) 0) w P k = (w || !((Q.take k).map byteI).all (inR (-1) 200))
  | 0, _ => by simp [labW]
  | k + 1, h => by
    unfold labW
    rw [labW_q Q T hb P w k (by omega), labV_q Q T hb P k (by omega), take_succ_nth Q k (by omega), List.map_append, List.all_append]
    simp only [List.map_cons, List.map_nil, List.all_cons, List.all_nil, Bool.and_true]
    cases w <;> cases ((Q.take k).map byteI).all (inR (-1) 200) <;> rfl

theorem firstP_lab : ∀ (L : List Int) (n : Nat), (∀ x ∈ L, inR 0 200 x = true) → firstP (L.map labN ++ List.replicate n 0) = L
  | [], 0, _ => rfl
  | [], n + 1, _ => rfl
  | x :: r, n, h => by
    have hx := h x (List.mem_cons_self ..)
    have hx' : inR (-1) 200 x = true := by rw [inR_iff] at hx ⊢; omega
    have hb := byteI_labN x hx'
    have hne : labN x ≠ 0 := by
      intro h0
      rw [h0] at hb
      rw [inR_iff] at hx
      unfold byteI at hb
      omega
    have ih := firstP_lab r n fun y hy => h y (List.mem_cons_of_mem _ hy)
    show (if labN x = 0 then [] else byteI (labN x) :: firstP (r.map labN ++ List.replicate n 0)) = x :: r
    rw [if_neg hne, hb, ih]
theorem labB_form (L : List Int) (h : L.length ≤ 8) : labB L = L.map labN ++ List.replicate (8 - L.length) 0 := by
  unfold labB pl8
  rw [List.take_of_length_le h, List.map_append, List.map_replicate, labN_mone]
theorem labR_parts {L : List Int} (h : labR L = true) : okTo (-1) L = true ∧ L.length ≤ 8 := by
  unfold labR at h
  simp only [Bool.and_eq_true, decide_eq_true_eq] at h
  exact ⟨h.1, by omega⟩
theorem firstP_labB (L : List Int) (h : labR L = true) : firstP (labB L) = L := by
  obtain ⟨h1, h2⟩ := labR_parts h
  rw [labB_form L h2]
  exact firstP_lab L _ (okTo_ge L _ h1)
theorem cut_tail (M : List Int) : ∀ k, k ≤ M.length → M.take k = M.take (cutLen M k) ++ List.replicate (k - cutLen M k) (-1)
  | 0, _ => by simp [cutLen]
  | k + 1, h => by
    have ih := cut_tail M k (by omega)
    have hle := cutLen_le M k
    unfold cutLen
    by_cases h0 : nthI M k = -1
    · rw [if_pos h0, takeI_succ (by omega), ih, h0, List.append_assoc, show k + 1 - cutLen M k = (k - cutLen M k) + 1 from by omega, List.replicate_succ']
    · rw [if_neg h0]
      simp
/-- may these bytes be a node's labels? -/
def okQ (Q : List Nat) : Bool := labR (firstP Q) && decide (labB (firstP Q) = Q)
theorem okQ_parts {Q : List Nat} (h : okQ Q = true) : labR (firstP Q) = true ∧ labB (firstP Q) = Q := by
  unfold okQ at h
  simpa using h
theorem labW_or (s : Cs) (wb : Bool) (P : List Int) (k : Nat) : labW s wb P k = (wb || labW s false P k) := by
  induction k with
  | zero => simp [labW]
  | succ k ih =>
    show (labW s wb P k || !inR (-1) 200 (labV s P k)) = (wb || (labW s false P k || !inR (-1) 200 (labV s P k)))
    rw [ih, Bool.or_assoc]
set_option maxHeartbeats 400000 in
/-- what the program finds in eight bytes -/
theorem lab_read (Q T : List Nat) (hb : IsBytes Q) (h8 : Q.length = 8) (wb : Bool) : labS (.r (Q ++ T) 0) (pl8 []) 8 = .r T 0 ∧ labWr (.r (Q ++ T) 0) wb [] = (wb || !okQ Q) ∧ (okQ Q = true → labL (.r (Q ++ T) 0) (pl8 []) 8 = pl8 (firstP Q)) := by
  have e1 : labS (.r (Q ++ T) 0) (pl8 []) 8 = .r T 0 := by
    have := labS_q Q T hb (pl8 []) 8 (by omega)
    rw [List.drop_of_length_le (by omega)] at this
    exact this
  have hL : labL (.r (Q ++ T) 0) (pl8 []) 8 = Q.map byteI := by
    have := labL_q Q T hb (pl8 []) 8 (by omega)
    rw [List.take_of_length_le (by omega)] at this
    exact this
  have hor : labWr (.r (Q ++ T) 0) wb [] = (wb || labWr (.r (Q ++ T) 0) false []) := by
    unfold labWr
    rw [labW_or _ wb, Bool.or_assoc]
  refine ⟨e1, ?_, ?_⟩
  · rw [hor]
    congr 1
    by_cases hq : okQ Q = true
    · obtain ⟨q1, q2⟩ := okQ_parts hq
      have := (lab_back (firstP Q) q1 T).2.1
      rw [q2] at this
      rw [this, hq]
      rfl
    · rw [Bool.not_eq_true] at hq
      rw [hq]
      show labWr _ _ _ = true
      by_cases hw : labWr (.r (Q ++ T) 0) false [] = true
      · exact hw
      · exfalso
        rw [Bool.not_eq_true] at hw
        unfold labWr labOut at hw
        have hsw : ¬ ((Cs.r (Q ++ T) 0).isw = true) := by simp [Cs.isw]
        rw [if_neg hsw, hL] at hw
        have hW := labW_q Q T hb (pl8 []) false 8 (by omega)
        rw [List.take_of_length_le (by omega)] at hW
        rw [hW] at hw
        obtain ⟨M, hM⟩ : ∃ M, M = Q.map byteI := ⟨_, rfl⟩
        rw [← hM] at hw
        have hMl : M.length = 8 := by rw [hM, List.length_map, h8]
        simp only [Bool.false_or, Bool.or_eq_false_iff, Bool.not_eq_false', Bool.and_eq_true, decide_eq_true_eq] at hw
        obtain ⟨w1, w2, w3⟩ := hw
        have ht := cut_tail M 8 (by omega)
        have hc := cutLen_le M 8
        rw [List.take_of_length_le (by omega)] at ht
        obtain ⟨L, hLd⟩ : ∃ L, L = M.take (cutLen M 8) := ⟨_, rfl⟩
        have hLl : L.length = cutLen M 8 := by rw [hLd, List.length_take]; omega
        rw [← hLd] at ht w3
        have hall : L.all (inR (-1) 200) = true := by
          rw [ht, List.all_append] at w1
          exact ((Bool.and_eq_true _ _).mp w1).1
        have hok : okTo (-1) L = true := by
          rw [← okTo_eq L (-1) (by omega), hall, w3]
          rfl
        have hR : labR L = true := by
          unfold labR
          rw [hok, decide_eq_true (by omega)]
          rfl
        have hpl : pl8 L = M := by
          unfold pl8
          rw [List.take_of_length_le (by omega), hLl]
          exact ht.symm
        have hB : labB L = Q := by
          unfold labB
          rw [hpl, hM, List.map_map]
          refine (List.map_congr_left (g := id) fun b hb2 => labN_byteI b (hb b hb2)).trans (List.map_id _)
        have hF := firstP_labB L hR
        rw [hB] at hF
        unfold okQ at hq
        rw [hF, hR, hB] at hq
        simp at hq
  · intro hq
    obtain ⟨q1, q2⟩ := okQ_parts hq
    have := (lab_back (firstP Q) q1 T).2.2
    rw [q2] at this
    exact this
end Go.Proofs.Ytmiiogailnjfpaa
