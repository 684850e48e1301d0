/- A property's record, read back: pure. -/
import Derived.Test.YtpoaokkmmoeekaaRcPureProp
import Derived.Test.YtpoaokkmmoeekaaRcPropG
namespace Go.Proofs.Ytpoaokkmmoeekaa
open Go.RowKit
set_option linter.unusedVariables false

theorem bits_back (x : Int) (h : isI x) : wrap64 ((lowN 8 (uIn x) : Nat) : Int) = x := by
  unfold lowN uIn
  rw [wrapU64, wrap64_eq]
  have p8 : (256 : Nat) ^ 8 = 18446744073709551616 := rfl
  rw [p8]
  obtain ⟨h1, h2⟩ := h
  omega
def zP : PropC := ⟨0, 0, 0, -1, 0, 0⟩
def tailP (x : PropC) : List Nat := putNum 4 (fIn x.pv (-1)) ++ (putNum 4 (fIn x.nx (-1)) ++ [])
def midP (x : PropC) : List Nat := if 4 ≤ x.kd then putNum 4 (fIn 0 0) ++ (putNum 4 (fIn x.bl (-1)) ++ tailP x) else putNum 8 (uIn x.nu) ++ tailP x
def allP (x : PropC) : List Nat := putNum 2 (fIn x.ky 0) ++ (putNum 1 (fIn x.kd 0) ++ midP x)
theorem allP_eq (x : PropC) (hx : PropI x) (hok : refPropOk x = true) : refPropB x = allP x := by
  rw [← putPropB_eq x hx hok, putPropQ_eq x hx]
  show pB4 x ++ putNum 4 (fIn x.pv (-1)) ++ putNum 4 (fIn x.nx (-1)) = allP x
  unfold pB4 allP midP tailP pB2
  split <;> simp only [List.nil_append, List.append_assoc, List.append_nil]
theorem getPropQ4_back (x : PropC) (hx : PropI x) (hok : refPropOk x = true) :
    propQ4 (.r (allP x) 0, false) zP = (.r (tailP x) 0, false) ∧ propK (.r (allP x) 0, false) zP = x.kd ∧ propN (.r (allP x) 0, false) zP = x.nu ∧ propB (.r (allP x) 0, false) zP = x.bl ∧ fval (.r (allP x) 0, false) 2 0 zP.ky = x.ky := by
  obtain ⟨o1, o2, o3, o4, o5, o6⟩ := refPropOk_parts hok
  have hbl : 4 ≤ x.kd → x.bl ≠ -1 ∧ inR (-1) 65536 x.bl = true := fun h => by
    obtain ⟨lb, ub⟩ := (inR_iff _ _ _).1 (o5 h).2
    exact ⟨by omega, by rw [inR_iff]; omega⟩
  have hlo : ¬ 4 ≤ x.kd → x.bl = -1 := fun h => o6 (by omega)
  have k1 : fOut (lowN 2 (fIn x.ky 0)) 0 = x.ky := back 2 (by decide) 0 200 x.ky o1 (by decide) (by decide) (by decide)
  have o2' : inR 0 9 x.kd = true := by rw [inR_iff] at o2 ⊢; omega
  have o2l : 1 ≤ x.kd := ((inR_iff _ _ _).1 o2).1
  have k2 : fOut (lowN 1 (fIn x.kd 0)) 0 = x.kd := back 1 (by decide) 0 9 x.kd o2' (by decide) (by decide) (by decide)
  have e1 : propQ1 (.r (allP x) 0, false) zP = (.r (putNum 1 (fIn x.kd 0) ++ midP x) 0, false) := by
    refine (fld_r 2 (by decide) _ _ _ _ _ _).trans ?_
    rw [k1, o1]
    rfl
  have v1 : fval (.r (allP x) 0, false) 2 0 zP.ky = x.ky := (fval_r 2 (by decide) _ _ _ _ _).trans k1
  have e2 : propQ2 (.r (allP x) 0, false) zP = (.r (midP x) 0, false) := by
    unfold propQ2
    rw [e1]
    refine (fld_r 1 (by decide) _ _ _ _ _ _).trans ?_
    rw [k2, o2']
    rfl
  have eK : propK (.r (allP x) 0, false) zP = x.kd := by
    unfold propK
    rw [e1]
    exact (fval_r 1 (by decide) _ _ _ _ _).trans k2
  have e3 : propQ3 (.r (allP x) 0, false) zP = (.r (midP x) 0, false) := by
    unfold propQ3
    rw [e2, eK, decide_eq_true o2l]
    rfl
  unfold propQ4 propN propB
  rw [eK, e3]
  by_cases h4 : 4 ≤ x.kd
  · obtain ⟨n0, ob⟩ := o5 h4
    obtain ⟨hne, ob'⟩ := hbl h4
    have k3 : fOut (lowN 4 (fIn 0 0)) 0 = 0 := back 4 (by decide) 0 1 0 (by decide) (by decide) (by decide) (by decide)
    have k4 : fOut (lowN 4 (fIn x.bl (-1))) (-1) = x.bl := back 4 (by decide) (-1) 65536 x.bl ob' (by decide) (by decide) (by decide)
    have eM : midP x = putNum 4 (fIn 0 0) ++ (putNum 4 (fIn x.bl (-1)) ++ tailP x) := if_pos h4
    rw [if_pos h4, if_pos h4, if_pos h4, eM]
    have b1 : blobQ1 (.r (putNum 4 (fIn 0 0) ++ (putNum 4 (fIn x.bl (-1)) ++ tailP x)) 0, false) = (.r (putNum 4 (fIn x.bl (-1)) ++ tailP x) 0, false) := by
      refine (fld_r 4 (by decide) _ _ _ _ _ _).trans ?_
      rw [k3]
      rfl
    have b2 : blobV (.r (putNum 4 (fIn 0 0) ++ (putNum 4 (fIn x.bl (-1)) ++ tailP x)) 0, false) zP.bl = x.bl := by
      unfold blobV
      rw [b1]
      exact (fval_r 4 (by decide) _ _ _ _ _).trans k4
    refine ⟨?_, rfl, n0.symm, b2, v1⟩
    unfold blobQ
    rw [b2, b1]
    have b3 : fld (.r (putNum 4 (fIn x.bl (-1)) ++ tailP x) 0, false) 4 (-1) 65536 zP.bl = (.r (tailP x) 0, false) := by
      refine (fld_r 4 (by decide) _ _ _ _ _ _).trans ?_
      rw [k4, ob']
      rfl
    have d1 : decide (x.bl ≠ -1) = true := decide_eq_true hne
    have d2 : decide (zP.nu = 0) = true := by decide
    rw [b3, d1, d2]
    rfl
  · have hb := hlo h4
    have eM : midP x = putNum 8 (uIn x.nu) ++ tailP x := if_neg h4
    rw [if_neg h4, if_neg h4, if_neg h4, eM]
    refine ⟨?_, rfl, ?_, hb.symm, v1⟩
    · unfold bitsQ
      have a1 : (Cs.r (putNum 8 (uIn x.nu) ++ tailP x) 0).aft 8 (uIn zP.nu) = .r (tailP x) 0 := aft_r 8 (by decide) (uIn x.nu) (uIn zP.nu) (tailP x)
      have d1 : decide (zP.bl = -1) = true := by decide
      rw [d1]
      show ((Cs.r (putNum 8 (uIn x.nu) ++ tailP x) 0).aft 8 (uIn zP.nu), false || !true) = _
      rw [a1]
      rfl
    · unfold bitsV
      have a1 : (Cs.r (putNum 8 (uIn x.nu) ++ tailP x) 0).num 8 (uIn zP.nu) = lowN 8 (uIn x.nu) := num_r 8 (by decide) (uIn x.nu) (uIn zP.nu) (tailP x)
      show wrap64 (((Cs.r (putNum 8 (uIn x.nu) ++ tailP x) 0).num 8 (uIn zP.nu) : Nat) : Int) = x.nu
      rw [a1]
      exact bits_back x.nu hx.2.2.1
theorem getProp_back (x : PropC) (hx : PropI x) (hok : refPropOk x = true) : getPropE (refPropB x) = 0 ∧ getPropV (refPropB x) = x := by
  obtain ⟨e4, eK, eN, eB, v1⟩ := getPropQ4_back x hx hok
  obtain ⟨o1, o2, o3, o4, o5, o6⟩ := refPropOk_parts hok
  have k5 : fOut (lowN 4 (fIn x.pv (-1))) (-1) = x.pv := back 4 (by decide) (-1) 65536 x.pv o3 (by decide) (by decide) (by decide)
  have k6 : fOut (lowN 4 (fIn x.nx (-1))) (-1) = x.nx := back 4 (by decide) (-1) 65536 x.nx o4 (by decide) (by decide) (by decide)
  have e5 : propQ5 (.r (allP x) 0, false) zP = (.r (putNum 4 (fIn x.nx (-1)) ++ []) 0, false) := by
    unfold propQ5
    rw [e4]
    refine (fld_r 4 (by decide) _ _ _ _ _ _).trans ?_
    rw [k5, o3]
    rfl
  have v5 : fval (propQ4 (.r (allP x) 0, false) zP) 4 (-1) zP.pv = x.pv := by
    rw [e4]
    exact (fval_r 4 (by decide) _ _ _ _ _).trans k5
  have e6 : propQ (.r (allP x) 0, false) zP = (.r [] 0, false) := by
    unfold propQ
    rw [e5]
    refine (fld_r 4 (by decide) _ _ _ _ _ _).trans ?_
    rw [k6, o4]
    rfl
  have v6 : fval (propQ5 (.r (allP x) 0, false) zP) 4 (-1) zP.nx = x.nx := by
    rw [e5]
    exact (fval_r 4 (by decide) _ _ _ _ _).trans k6
  rw [allP_eq x hx hok]
  constructor
  · show (propQ (.r (allP x) 0, false) zP).1.endE (propQ (.r (allP x) 0, false) zP).2 = 0
    rw [e6]
    rfl
  · show propV (.r (allP x) 0, false) zP = x
    unfold propV
    rw [v1, eK, eN, eB, v5, v6]
end Go.Proofs.Ytpoaokkmmoeekaa
