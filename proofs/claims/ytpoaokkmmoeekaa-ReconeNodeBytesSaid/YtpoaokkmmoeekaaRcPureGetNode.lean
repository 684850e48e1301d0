/- A node's bytes of version 1, read: pure. -/
import Derived.Test.YtpoaokkmmoeekaaRcPureLab
namespace Go.Proofs.Ytpoaokkmmoeekaa
open Go.RowKit
set_option linter.unusedVariables false

theorem labS_left1 (s : Cs) (hs : s.isw = false) (P : List Int) (j : Nat) : ∀ k, (labS s P k).left j ↔ s.left (j + k)
  | 0 => Iff.rfl
  | k + 1 => by
    have h1 := aft_left (labS s P k) (by rw [labS_isw, hs]) 1 (by decide) (fIn (nthI P k) (-1)) j
    have h2 := labS_left1 s hs P (j + 1) k
    rw [show j + (k + 1) = j + 1 + k from by omega]
    exact h1.trans h2
def nod1R (bs : List Nat) : Int := (atN bs 0 4 : Nat) - 1
def nod1P (bs : List Nat) : Int := (atN bs 4 4 : Nat) - 1
def nod1Ok (bs : List Nat) : Bool := inR (-1) 2048 (nod1R bs) && inR (-1) 65536 (nod1P bs) && okQ (bs.drop 8)
def refNod1GE (bs : List Nat) : Int := if bs.length = 16 then (if nod1Ok bs = true then 0 else 41) else 4
theorem getNode_len (bs : List Nat) (h : bs.length ≠ 16) : getNE bs = 4 := by
  refine endE_left _ (by unfold getNQ; rw [nodeQ_isw]; rfl) _ fun hl => h ?_
  have h3 : (labS (nodeQ2 (.r bs 0, false) 0 0).1 (pl8 []) 8).left 0 := hl
  have i2 : (nodeQ2 (.r bs 0, false) 0 0).1.isw = false := by unfold nodeQ2 nodeQ1; rw [fld_isw, fld_isw]; rfl
  have h4 := (labS_left1 _ i2 (pl8 []) 0 8).1 h3
  have i1 : (nodeQ1 (.r bs 0, false) 0).1.isw = false := by unfold nodeQ1; rw [fld_isw]; rfl
  have h6 := (fld_left (nodeQ1 (.r bs 0, false) 0) i1 4 (by decide) (-1) 65536 0 8).1 h4
  have h7 := (fld_left ((.r bs 0, false) : Cs × Bool) rfl 4 (by decide) (-1) 2048 0 12).1 h6
  exact h7.2
theorem nod1Cut (bs : List Nat) (hb : IsBytes bs) (h : bs.length = 16) : bs = putNum 4 (atN bs 0 4) ++ (putNum 4 (atN bs 4 4) ++ bs.drop 8) := by
  have c1 := cut_step bs hb 0 4 (by decide) (by omega)
  have c2 := cut_step bs hb 4 4 (by decide) (by omega)
  have c := c1
  rw [List.drop_zero] at c
  refine c.trans ?_
  rw [show 0 + 4 = 4 from rfl, c2]
  rfl
theorem nod1I (bs : List Nat) (hb : IsBytes bs) (h : bs.length = 16) : isI (nod1R bs) ∧ isI (nod1P bs) := by
  have l0 := atN_lt bs hb 0 4 (by omega) (by omega)
  have l1 := atN_lt bs hb 4 4 (by omega) (by omega)
  unfold isI nod1R nod1P
  omega
theorem getNode_read (bs : List Nat) (hb : IsBytes bs) (h : bs.length = 16) : getNE bs = (if nod1Ok bs = true then 0 else 41) ∧ (nod1Ok bs = true → getNR bs = nod1R bs ∧ getNP bs = nod1P bs ∧ getNPl bs = pl8 (firstP (bs.drop 8))) := by
  have q1 : IsBytes (bs.drop 8) := hb.drop 8
  have q2 : (bs.drop 8).length = 8 := by rw [List.length_drop]; omega
  have hc := nod1Cut bs hb h
  have k1 : fOut (lowN 4 (atN bs 0 4)) (-1) = nod1R bs := (out_low 4 _ (by decide) (-1) (by decide) (atN_pow bs hb 0 4 (by omega))).trans (by show (-1) + ((atN bs 0 4 : Nat) : Int) = ((atN bs 0 4 : Nat) : Int) - 1; omega)
  have k2 : fOut (lowN 4 (atN bs 4 4)) (-1) = nod1P bs := (out_low 4 _ (by decide) (-1) (by decide) (atN_pow bs hb 4 4 (by omega))).trans (by show (-1) + ((atN bs 4 4 : Nat) : Int) = ((atN bs 4 4 : Nat) : Int) - 1; omega)
  have e1 : nodeQ1 (.r bs 0, false) 0 = (.r (putNum 4 (atN bs 4 4) ++ bs.drop 8) 0, false || !inR (-1) 2048 (nod1R bs)) := by
    have := fld_r 4 (by decide) (atN bs 0 4) (putNum 4 (atN bs 4 4) ++ bs.drop 8) false (-1) 2048 0
    rw [k1] at this
    have hc2 : putNum ((4 : Nat) : Int) (atN bs 0 4) ++ (putNum 4 (atN bs 4 4) ++ bs.drop 8) = bs := hc.symm
    rw [hc2] at this
    exact this
  have e2 : nodeQ2 (.r bs 0, false) 0 0 = (.r (bs.drop 8) 0, (false || !inR (-1) 2048 (nod1R bs)) || !inR (-1) 65536 (nod1P bs)) := by
    unfold nodeQ2
    rw [e1]
    refine (fld_r 4 (by decide) _ _ _ _ _ _).trans ?_
    rw [k2]
  obtain ⟨l1, l2, l3⟩ := lab_read (bs.drop 8) [] q1 q2 ((false || !inR (-1) 2048 (nod1R bs)) || !inR (-1) 65536 (nod1P bs))
  rw [List.append_nil] at l1 l2 l3
  have hw : (((false || !inR (-1) 2048 (nod1R bs)) || !inR (-1) 65536 (nod1P bs)) || !okQ (bs.drop 8)) = !nod1Ok bs := by
    unfold nod1Ok
    cases inR (-1) 2048 (nod1R bs) <;> cases inR (-1) 65536 (nod1P bs) <;> cases okQ (bs.drop 8) <;> rfl
  refine ⟨?_, fun hok => ⟨?_, ?_, ?_⟩⟩
  · unfold getNE getNQ nodeQ
    rw [e2]
    simp only
    rw [l1, l2, hw]
    cases nod1Ok bs <;> rfl
  · show fval (.r bs 0, false) 4 (-1) 0 = _
    have := fval_r 4 (by decide) (atN bs 0 4) (putNum 4 (atN bs 4 4) ++ bs.drop 8) false (-1) 0
    have hc2 : putNum ((4 : Nat) : Int) (atN bs 0 4) ++ (putNum 4 (atN bs 4 4) ++ bs.drop 8) = bs := hc.symm
    rw [hc2, k1] at this
    exact this
  · unfold getNP nodeP
    rw [e1]
    exact (fval_r 4 (by decide) _ _ _ _ _).trans k2
  · unfold getNPl nodePl
    rw [e2]
    unfold nod1Ok at hok
    simp only [Bool.and_eq_true] at hok
    exact l3 hok.2
theorem getNE_eq (bs : List Nat) (hb : IsBytes bs) : getNE bs = refNod1GE bs := by
  unfold refNod1GE
  split
  · next h => exact (getNode_read bs hb h).1
  · next h => exact getNode_len bs h
theorem refNod1GE_zero {bs : List Nat} (h : refNod1GE bs = 0) : bs.length = 16 ∧ nod1Ok bs = true := by
  unfold refNod1GE at h
  split at h
  · next h1 =>
    split at h
    · next h2 => exact ⟨h1, h2⟩
    · cases h
  · cases h
theorem nod1Ok_eq (bs : List Nat) (hb : IsBytes bs) (h : bs.length = 16) : (refNodeOk (nod1R bs) (nod1P bs) (firstP (bs.drop 8)) && decide (refNodeB (nod1R bs) (nod1P bs) (firstP (bs.drop 8)) = bs)) = nod1Ok bs := by
  have l0 := atN_lt bs hb 0 4 (by omega) (by omega)
  have l1 := atN_lt bs hb 4 4 (by omega) (by omega)
  have hc := nod1Cut bs hb h
  have hB : refNodeB (nod1R bs) (nod1P bs) (firstP (bs.drop 8)) = putNum 4 (atN bs 0 4) ++ (putNum 4 (atN bs 4 4) ++ labB (firstP (bs.drop 8))) := by
    unfold refNodeB ptrB
    rw [← fIn_one, ← fIn_one, show fIn (nod1R bs) (-1) = atN bs 0 4 from fIn_pred _ l0, show fIn (nod1P bs) (-1) = atN bs 4 4 from fIn_pred _ l1, List.append_assoc]
  have hiff : (refNodeB (nod1R bs) (nod1P bs) (firstP (bs.drop 8)) = bs) ↔ labB (firstP (bs.drop 8)) = bs.drop 8 := by
    rw [hB]
    constructor
    · intro he
      exact List.append_cancel_left (List.append_cancel_left (he.trans hc))
    · intro h2
      refine Eq.trans ?_ hc.symm
      rw [h2]
  rw [Bool.eq_iff_iff]
  unfold nod1Ok refNodeOk okQ
  simp only [Bool.and_eq_true, decide_eq_true_eq, hiff]
  constructor
  · rintro ⟨⟨⟨a1, a2⟩, a3⟩, a4⟩
    exact ⟨⟨a1, a2⟩, a3, a4⟩
  · rintro ⟨⟨a1, a2⟩, a3, a4⟩
    exact ⟨⟨⟨a1, a2⟩, a3⟩, a4⟩
end Go.Proofs.Ytpoaokkmmoeekaa
