/- A node's record, read back: pure. -/
import Derived.Test.YtpoaokkmmoeekaaRcPureNode
import Derived.Test.YtpoaokkmmoeekaaRcRefNA
namespace Go.Proofs.Ytpoaokkmmoeekaa
open Go.RowKit
set_option linter.unusedVariables false

theorem labN_cons (x : Int) (rest : List Nat) : labN x :: rest = putNum 1 (fIn x (-1)) ++ rest := by
  rw [putNum_one, fIn_one]
  rfl
theorem labS_r (Q : List Int) (P : List Int) : ∀ k, k ≤ Q.length → labS (.r (Q.map labN) 0) P k = .r ((Q.drop k).map labN) 0
  | 0, _ => by simp [labS]
  | k + 1, h => by
    unfold labS
    rw [labS_r Q P k (by omega), dropI (by omega), List.map_cons, labN_cons]
    exact aft_r 1 (by decide) _ _ _
theorem labV_r (Q : List Int) (hQ : ∀ x ∈ Q, inR (-1) 200 x = true) (P : List Int) (k : Nat) (h : k < Q.length) : labV (.r (Q.map labN) 0) P k = nthI Q k := by
  unfold labV
  rw [labS_r Q P k (by omega), dropI h, List.map_cons, labN_cons]
  have hb := back 1 (by decide) (-1) 200 (nthI Q k) (hQ _ (by rw [nthI_lt h]; exact List.getElem_mem h)) (by decide) (by decide) (by decide)
  exact (fval_r 1 (by decide) _ _ false _ _).trans hb
theorem labW_r (Q : List Int) (hQ : ∀ x ∈ Q, inR (-1) 200 x = true) (P : List Int) (w : Bool) : ∀ k, k ≤ Q.length → labW (.r (Q.map labN) 0) w P k = w
  | 0, _ => rfl
  | k + 1, h => by
    unfold labW
    rw [labW_r Q hQ P w k (by omega), labV_r Q hQ P k (by omega), hQ _ (by rw [nthI_lt (by omega)]; exact List.getElem_mem (by omega))]
    simp
theorem labL_rk (Q : List Int) (hQ : ∀ x ∈ Q, inR (-1) 200 x = true) (P : List Int) : ∀ k, k ≤ Q.length → labL (.r (Q.map labN) 0) P k = Q.take k
  | 0, _ => by simp [labL]
  | k + 1, h => by rw [labL_succ, labL_rk Q hQ P k (by omega), labV_r Q hQ P k (by omega), takeI_succ (by omega)]
theorem labL_r (Q : List Int) (hQ : ∀ x ∈ Q, inR (-1) 200 x = true) (P : List Int) : labL (.r (Q.map labN) 0) P Q.length = Q := by
  rw [labL_rk Q hQ P _ (Nat.le_refl _), List.take_length]
theorem okTo_ge : ∀ (L : List Int) (p : Int), okTo p L = true → ∀ x ∈ L, inR 0 200 x = true
  | [], _, _, x, hx => by cases hx
  | y :: r, p, h, x, hx => by
    simp only [okTo, Bool.and_eq_true] at h
    rcases List.mem_cons.1 hx with rfl | hx
    · exact h.1.1
    · exact okTo_ge r y h.2 x hx
theorem pl8_in (L : List Int) (h : labR L = true) : ∀ x ∈ pl8 L, inR (-1) 200 x = true := by
  intro x hx
  unfold labR at h
  simp only [Bool.and_eq_true] at h
  unfold pl8 at hx
  rcases List.mem_append.1 hx with hx | hx
  · have := okTo_ge L _ h.1 x (List.mem_of_mem_take hx)
    rw [inR_iff] at this ⊢
    omega
  · obtain ⟨-, rfl⟩ := List.mem_replicate.1 hx
    decide
theorem cut_pl8 (L : List Int) (h : labR L = true) : ∀ j, L.length + j ≤ 8 → cutLen (pl8 L) (L.length + j) = L.length
  | 0, hj => by
    unfold labR at h
    simp only [Bool.and_eq_true] at h
    rcases hL : L.length with _ | m
    · rfl
    · show cutLen (pl8 L) (m + 1) = m + 1
      unfold cutLen
      have h8 : m < 8 := by omega
      have e := pl8_nth L m h8
      rw [if_pos (by omega)] at e
      have e2 : nthI (pl8 L) m = nthI L m := by
        unfold nthI at e ⊢
        rw [List.getD_eq_getElem?_getD, e]
        rfl
      have hm : m < L.length := by omega
      have hx := okTo_ge L _ h.1 (nthI L m) (by rw [nthI_lt hm]; exact List.getElem_mem hm)
      rw [inR_iff] at hx
      rw [if_neg (by rw [e2]; omega)]
  | j + 1, hj => by
    show cutLen (pl8 L) ((L.length + j) + 1) = L.length
    unfold cutLen
    have e := pl8_nth L (L.length + j) (by omega)
    rw [if_neg (by omega)] at e
    have e2 : nthI (pl8 L) (L.length + j) = -1 := by
      unfold nthI
      rw [List.getD_eq_getElem?_getD, e]
      rfl
    rw [if_pos e2]
    exact cut_pl8 L h j (by omega)
theorem pl8_take (L : List Int) (h : labR L = true) : (pl8 L).take (cutLen (pl8 L) 8) = L := by
  have hl : L.length < 9 := by
    unfold labR at h
    simp only [Bool.and_eq_true, decide_eq_true_eq] at h
    exact h.2
  have := cut_pl8 L h (8 - L.length) (by omega)
  rw [show L.length + (8 - L.length) = 8 from by omega] at this
  rw [this]
  unfold pl8
  rw [List.take_of_length_le (by omega : L.length ≤ 8), List.take_left']
  rfl
theorem getNode_back (r p : Int) (L : List Int) (hok : refNodeOk r p L = true) : getNE (refNodeB r p L) = 0 ∧ getNR (refNodeB r p L) = r ∧ getNP (refNodeB r p L) = p ∧ getNPl (refNodeB r p L) = pl8 L := by
  unfold refNodeOk at hok
  simp only [Bool.and_eq_true] at hok
  obtain ⟨⟨o1, o2⟩, o3⟩ := hok
  have k1 : fOut (lowN 4 (fIn r (-1))) (-1) = r := back 4 (by decide) (-1) 2048 r o1 (by decide) (by decide) (by decide)
  have k2 : fOut (lowN 4 (fIn p (-1))) (-1) = p := back 4 (by decide) (-1) 65536 p o2 (by decide) (by decide) (by decide)
  have hB : refNodeB r p L = putNum 4 (fIn r (-1)) ++ (putNum 4 (fIn p (-1)) ++ labB L) := by
    unfold refNodeB ptrB
    rw [fIn_one, fIn_one, List.append_assoc]
  rw [hB]
  have e1 : nodeQ1 (.r (putNum 4 (fIn r (-1)) ++ (putNum 4 (fIn p (-1)) ++ labB L)) 0, false) 0 = (.r (putNum 4 (fIn p (-1)) ++ labB L) 0, false) := by
    refine (fld_r 4 (by decide) _ _ _ _ _ _).trans ?_
    rw [k1, o1]
    rfl
  have e2 : nodeQ2 (.r (putNum 4 (fIn r (-1)) ++ (putNum 4 (fIn p (-1)) ++ labB L)) 0, false) 0 0 = (.r (labB L) 0, false) := by
    unfold nodeQ2
    rw [e1]
    refine (fld_r 4 (by decide) _ _ _ _ _ _).trans ?_
    rw [k2, o2]
    rfl
  have hQ := pl8_in L o3
  have h8 := pl8_length L
  have eL : labL (.r (labB L) 0) (pl8 []) 8 = pl8 L := by
    have := labL_r (pl8 L) hQ (pl8 [])
    rw [h8] at this
    exact this
  have eS : labS (.r (labB L) 0) (pl8 []) 8 = .r [] 0 := by
    have := labS_r (pl8 L) (pl8 []) 8 (by omega)
    rw [List.drop_of_length_le (by omega)] at this
    exact this
  have eW : labW (.r (labB L) 0) false (pl8 []) 8 = false := labW_r (pl8 L) hQ (pl8 []) false 8 (by omega)
  have eO : labOut (.r (labB L) 0) [] = L := by
    unfold labOut
    rw [if_neg (by simp [Cs.isw]), eL]
    exact pl8_take L o3
  refine ⟨?_, ?_, ?_, ?_⟩
  · unfold getNE getNQ nodeQ
    rw [e2]
    unfold labWr
    simp only
    rw [eS, eW, eO]
    unfold labR at o3
    simp only [Bool.and_eq_true, decide_eq_true_eq] at o3
    have h9 : decide (L.length ≤ 8) = true := decide_eq_true (by omega)
    have ha : asc (-1) L = true := by
      have := okTo_eq L (-1) (by omega)
      rw [o3.1] at this
      simp only [Bool.and_eq_true] at this
      exact this.2
    rw [h9, ha]
    rfl
  · exact (fval_r 4 (by decide) _ _ false _ _).trans k1
  · unfold getNP nodeP
    rw [e1]
    exact (fval_r 4 (by decide) _ _ false _ _).trans k2
  · unfold getNPl nodePl
    rw [e2]
    exact eL
end Go.Proofs.Ytpoaokkmmoeekaa
