/- A node's bytes of version 2, read: pure. -/
import Derived.Test.YtmiiogailnjfpaaRdPureNod
namespace Go.Proofs.Ytmiiogailnjfpaa
open Go.RowKit
set_option linter.unusedVariables false

theorem labS_left (s : Cs) (hs : s.isw = false) (P : List Int) (j : Nat) : ∀ k, (labS s P k).left j ↔ s.left (j + k)
  | 0 => Iff.rfl
  | k + 1 => by
    have h1 := aft_left (labS s P k) (by rw [labS_isw, hs]) 1 (by decide) (fIn (nthI P k) (-1)) j
    have h2 := labS_left s hs P (j + 1) k
    rw [show j + (k + 1) = j + 1 + k from by omega]
    exact h1.trans h2
/-- the node that these bytes may be -/
def nodC (bs : List Nat) : NodC := ⟨decide (nth bs 0 ≠ 0), (atN bs 1 4 : Nat) - 1, (atN bs 5 4 : Nat) - 1⟩
def nodQb (bs : List Nat) : List Nat := (bs.take 17).drop 9
def nodOkB (bs : List Nat) : Bool := decide (nth bs 0 < 2) && inR (-1) (nodLim (nodC bs).d) (nodC bs).f && inR (-1) 65536 (nodC bs).o && okQ (nodQb bs)
def refNodTGE (bs : List Nat) : Int := if bs.length = 65 then (if nodOkB bs = true then 0 else 41) else 4

theorem getNodT_len (bs : List Nat) (h : bs.length ≠ 65) : getNodTE bs = 4 := by
  refine endE_left _ (by unfold getNodTQ; rw [NodTQ_isw]; rfl) _ fun hl => h ?_
  have h1 : (slS (nodQ4 (.r bs 0, false) nodBl []).1 [] ((48 : Nat) : Int)).left 0 := hl
  have h2 := (slS_left _ (by rw [nodQ4_isw]; rfl) [] 48).1 h1
  have h3 : (labS (nodQ3 (.r bs 0, false) nodBl).1 (pl8 []) 8).left 48 := h2
  have h4 := (labS_left _ (by rw [nodQ3_isw]; rfl) (pl8 []) 48 8).1 h3
  have h5 : (fld (nodQ2 (.r bs 0, false) nodBl) ((4 : Nat) : Int) (-1) 65536 nodBl.o).1.left 56 := h4
  have i2 : (nodQ2 (.r bs 0, false) nodBl).1.isw = false := by unfold nodQ2 nodQ1 flQ; rw [fld_isw, fld_isw]; rfl
  have h6 := (fld_left (nodQ2 (.r bs 0, false) nodBl) i2 4 (by decide) (-1) 65536 nodBl.o 56).1 h5
  have i1 : (nodQ1 (.r bs 0, false) nodBl).1.isw = false := by unfold nodQ1 flQ; rw [fld_isw]; rfl
  have h7 := (fld_left (nodQ1 (.r bs 0, false) nodBl) i1 4 (by decide) (-1) (nodLim (flV (.r bs 0, false) nodBl.d)) nodBl.f 60).1 h6
  have h8 := (fld_left ((.r bs 0, false) : Cs × Bool) rfl 1 (by decide) 0 2 (b01 nodBl.d) 64).1 h7
  exact h8.2
theorem fl_any (b : Nat) (hb : b < 256) (T : List Nat) (wb z : Bool) : flQ (.r (b :: T) 0, wb) z = (.r T 0, wb || !decide (b < 2)) ∧ flV (.r (b :: T) 0, wb) z = decide (b = 1) := by
  have ho : fOut (lowN 1 b) 0 = (b : Int) := (out_low 1 b (by decide) 0 (by decide) hb).trans (by omega)
  rw [byte_cons b hb]
  constructor
  · refine (show flQ _ z = _ from fld_r 1 (by decide) _ _ _ _ _ _).trans ?_
    rw [ho]
    have : inR 0 2 (b : Int) = decide (b < 2) := by
      rw [Bool.eq_iff_iff, inR_iff, decide_eq_true_eq]
      omega
    rw [this]
  · unfold flV
    have := fval_r 1 (by decide) b T wb 0 (b01 z)
    rw [ho] at this
    rw [show fval (.r (putNum ((1 : Nat) : Int) b ++ T) 0, wb) 1 0 (b01 z) = (b : Int) from this]
    by_cases h : b = 1
    · rw [decide_eq_true h, h]; rfl
    · rw [decide_eq_false h, decide_eq_false (by omega)]
theorem nodCut (bs : List Nat) (hb : IsBytes bs) (h : bs.length = 65) : bs = nth bs 0 :: (putNum 4 (atN bs 1 4) ++ (putNum 4 (atN bs 5 4) ++ (nodQb bs ++ bs.drop 17))) := by
  have c0 := drop_nth bs 0 (by omega)
  have c1 := cut_step bs hb 1 4 (by decide) (by omega)
  have c2 := cut_step bs hb 5 4 (by decide) (by omega)
  have c3 : bs.drop 9 = nodQb bs ++ bs.drop 17 := by
    unfold nodQb
    have e : bs.drop 9 = (bs.take 17 ++ bs.drop 17).drop 9 := by rw [List.take_append_drop]
    rw [e, List.drop_append_of_le_length (by rw [List.length_take]; omega)]
  rw [List.drop_zero] at c0
  refine c0.trans ?_
  rw [show 0 + 1 = 1 from rfl, c1]
  rw [show 1 + 4 = 5 from rfl, c2]
  rw [show 5 + 4 = 9 from rfl, c3]
  rfl
theorem nodQb_ok (bs : List Nat) (hb : IsBytes bs) (h : bs.length = 65) : IsBytes (nodQb bs) ∧ (nodQb bs).length = 8 := ⟨(hb.take _).drop _, by unfold nodQb; simp; omega⟩
theorem nodI (bs : List Nat) (hb : IsBytes bs) (h : bs.length = 65) : isI (nodC bs).f ∧ isI (nodC bs).o := by
  have l0 := atN_lt bs hb 1 4 (by omega) (by omega)
  have l1 := atN_lt bs hb 5 4 (by omega) (by omega)
  unfold isI nodC
  simp only
  omega
theorem getNodT_read (bs : List Nat) (hb : IsBytes bs) (h : bs.length = 65) : getNodTE bs = (if nodOkB bs = true then 0 else 41) ∧ (nodOkB bs = true → getNodTV bs = nodC bs ∧ getNodTP bs = pl8 (firstP (nodQb bs)) ∧ getNodTS bs = bs.drop 17) := by
  obtain ⟨q1, q2⟩ := nodQb_ok bs hb h
  have hd : (bs.drop 17).length = 48 := by rw [List.length_drop]; omega
  have hc := nodCut bs hb h
  have hb0 : nth bs 0 < 256 := hb.nth 0
  have k1 : fOut (lowN 4 (atN bs 1 4)) (-1) = (nodC bs).f := (out_low 4 _ (by decide) (-1) (by decide) (atN_pow bs hb 1 4 (by omega))).trans (by show (-1) + ((atN bs 1 4 : Nat) : Int) = ((atN bs 1 4 : Nat) : Int) - 1; omega)
  have k2 : fOut (lowN 4 (atN bs 5 4)) (-1) = (nodC bs).o := (out_low 4 _ (by decide) (-1) (by decide) (atN_pow bs hb 5 4 (by omega))).trans (by show (-1) + ((atN bs 5 4 : Nat) : Int) = ((atN bs 5 4 : Nat) : Int) - 1; omega)
  obtain ⟨f1, f2⟩ := fl_any (nth bs 0) hb0 (putNum 4 (atN bs 1 4) ++ (putNum 4 (atN bs 5 4) ++ (nodQb bs ++ bs.drop 17))) false nodBl.d
  rw [← hc] at f1 f2
  obtain ⟨b0, hb0d⟩ : ∃ b, b = decide (nth bs 0 < 2) := ⟨_, rfl⟩
  obtain ⟨dv, hdv⟩ : ∃ d, d = decide (nth bs 0 = 1) := ⟨_, rfl⟩
  rw [← hb0d] at f1
  rw [← hdv] at f2
  have e1 : nodQ1 (.r bs 0, false) nodBl = (.r (putNum 4 (atN bs 1 4) ++ (putNum 4 (atN bs 5 4) ++ (nodQb bs ++ bs.drop 17))) 0, false || !b0) := f1
  have e2 : nodQ2 (.r bs 0, false) nodBl = (.r (putNum 4 (atN bs 5 4) ++ (nodQb bs ++ bs.drop 17)) 0, (false || !b0) || !inR (-1) (nodLim dv) (nodC bs).f) := by
    unfold nodQ2
    rw [e1, f2]
    refine (fld_r 4 (by decide) _ _ _ _ _ _).trans ?_
    rw [k1]
  have e3 : nodQ3 (.r bs 0, false) nodBl = (.r (nodQb bs ++ bs.drop 17) 0, ((false || !b0) || !inR (-1) (nodLim dv) (nodC bs).f) || !inR (-1) 65536 (nodC bs).o) := by
    unfold nodQ3
    rw [e2]
    refine (fld_r 4 (by decide) _ _ _ _ _ _).trans ?_
    rw [k2]
  obtain ⟨l1, l2, l3⟩ := lab_read (nodQb bs) (bs.drop 17) q1 q2 (((false || !b0) || !inR (-1) (nodLim dv) (nodC bs).f) || !inR (-1) 65536 (nodC bs).o)
  have e4 : nodQ4 (.r bs 0, false) nodBl [] = (.r (bs.drop 17) 0, (((false || !b0) || !inR (-1) (nodLim dv) (nodC bs).f) || !inR (-1) 65536 (nodC bs).o) || !okQ (nodQb bs)) := by
    unfold nodQ4
    rw [e3]
    simp only
    rw [l1, l2]
  have hw : ((((false || !b0) || !inR (-1) (nodLim dv) (nodC bs).f) || !inR (-1) 65536 (nodC bs).o) || !okQ (nodQb bs)) = !nodOkB bs := by
    unfold nodOkB
    rw [← hb0d]
    cases hbb : b0
    · simp
    · have h2 : nth bs 0 < 2 := by rw [hbb] at hb0d; exact of_decide_eq_true hb0d.symm
      have hdd : dv = (nodC bs).d := by
        rw [hdv]
        show decide (nth bs 0 = 1) = decide (nth bs 0 ≠ 0)
        rw [Bool.eq_iff_iff, decide_eq_true_eq, decide_eq_true_eq]
        omega
      rw [hdd]
      cases inR (-1) (nodLim (nodC bs).d) (nodC bs).f <;> cases inR (-1) 65536 (nodC bs).o <;> cases okQ (nodQb bs) <;> rfl
  rw [hw] at e4
  refine ⟨?_, fun hok => ?_⟩
  · show (nodTQ (.r bs 0, false) nodBl [] []).1.endE (nodTQ (.r bs 0, false) nodBl [] []).2 = _
    unfold nodTQ
    rw [e4]
    have this : slS (.r (bs.drop 17) 0) [] 48 = .r [] 0 := slS_r (bs.drop 17) 48 hd []
    simp only
    rw [this]
    cases nodOkB bs <;> rfl
  · have hok2 := hok
    unfold nodOkB at hok2
    simp only [Bool.and_eq_true, decide_eq_true_eq] at hok2
    obtain ⟨⟨⟨o1, o2⟩, o3⟩, o4⟩ := hok2
    have hdd : dv = (nodC bs).d := by
      rw [hdv]
      show decide (nth bs 0 = 1) = decide (nth bs 0 ≠ 0)
      rw [Bool.eq_iff_iff, decide_eq_true_eq, decide_eq_true_eq]
      omega
    refine ⟨?_, ?_, ?_⟩
    · show nodV (.r bs 0, false) nodBl = nodC bs
      have v1 : fval (nodQ1 (.r bs 0, false) nodBl) 4 (-1) nodBl.f = (nodC bs).f := by
        rw [e1]
        exact (fval_r 4 (by decide) _ _ _ _ _).trans k1
      have v2 : fval (nodQ2 (.r bs 0, false) nodBl) 4 (-1) nodBl.o = (nodC bs).o := by
        rw [e2]
        exact (fval_r 4 (by decide) _ _ _ _ _).trans k2
      unfold nodV
      rw [f2, v1, v2, hdd]
    · show nodPl (.r bs 0, false) nodBl [] = _
      unfold nodPl
      rw [e3]
      exact l3 o4
    · show slB (nodQ4 (.r bs 0, false) nodBl []).1 48 = _
      rw [e4]
      exact slB_r _ 48 hd
theorem getNodTE_eq (bs : List Nat) (hb : IsBytes bs) : getNodTE bs = refNodTGE bs := by
  unfold refNodTGE
  split
  · next h => exact (getNodT_read bs hb h).1
  · next h => exact getNodT_len bs h
theorem refNodTGE_zero {bs : List Nat} (h : refNodTGE bs = 0) : bs.length = 65 ∧ nodOkB bs = true := by
  unfold refNodTGE at h
  split at h
  · next h1 =>
    split at h
    · next h2 => exact ⟨h1, h2⟩
    · cases h
  · cases h
/-- the document's test: what was read is written again -/
theorem nodOkB_eq (bs : List Nat) (hb : IsBytes bs) (h : bs.length = 65) : (refNodTok (nodC bs) (firstP (nodQb bs)) (bs.drop 17) && decide (refNodB (nodC bs) (firstP (nodQb bs)) ++ bs.drop 17 = bs)) = nodOkB bs := by
  have hd : (bs.drop 17).length = 48 := by rw [List.length_drop]; omega
  have l0 := atN_lt bs hb 1 4 (by omega) (by omega)
  have l1 := atN_lt bs hb 5 4 (by omega) (by omega)
  have hc := nodCut bs hb h
  have hB : refNodB (nodC bs) (firstP (nodQb bs)) ++ bs.drop 17 = d01 (nodC bs).d :: (putNum 4 (atN bs 1 4) ++ (putNum 4 (atN bs 5 4) ++ (labB (firstP (nodQb bs)) ++ bs.drop 17))) := by
    unfold refNodB ptrB
    rw [← fIn_one, ← fIn_one, show fIn (nodC bs).f (-1) = atN bs 1 4 from fIn_pred _ l0, show fIn (nodC bs).o (-1) = atN bs 5 4 from fIn_pred _ l1]
    simp only [List.append_assoc, List.cons_append, List.nil_append]
  have hiff : (refNodB (nodC bs) (firstP (nodQb bs)) ++ bs.drop 17 = bs) ↔ nth bs 0 < 2 ∧ labB (firstP (nodQb bs)) = nodQb bs := by
    rw [hB]
    constructor
    · intro he
      have he2 := List.cons.inj (he.trans hc)
      have h1 : d01 (nodC bs).d = nth bs 0 := he2.1
      have h2 := List.append_cancel_left (List.append_cancel_left he2.2)
      have h3 := List.append_cancel_right h2
      refine ⟨?_, h3⟩
      rw [← h1]
      unfold d01
      split <;> omega
    · rintro ⟨h1, h2⟩
      refine Eq.trans ?_ hc.symm
      rw [h2]
      have : d01 (nodC bs).d = nth bs 0 := by
        show (if decide (nth bs 0 ≠ 0) = true then 1 else 0) = nth bs 0
        by_cases h0 : nth bs 0 = 0
        · rw [decide_eq_false (by omega), h0]; rfl
        · rw [decide_eq_true h0]; show 1 = _; omega
      rw [this]
  rw [Bool.eq_iff_iff]
  unfold nodOkB refNodTok okQ
  simp only [Bool.and_eq_true, decide_eq_true_eq, hiff, hd]
  constructor
  · rintro ⟨⟨⟨⟨a1, a2⟩, a3⟩, -⟩, a5, a6⟩
    exact ⟨⟨⟨a5, a1⟩, a2⟩, a3, a6⟩
  · rintro ⟨⟨⟨a5, a1⟩, a2⟩, a3, a6⟩
    exact ⟨⟨⟨⟨a1, a2⟩, a3⟩, trivial⟩, a5, a6⟩
end Go.Proofs.Ytmiiogailnjfpaa
