/- A group's record, written and read: pure. Written by mkpg.py. -/
import Derived.Test.YtmiiogailnjfpaaRcPureA
import Derived.Test.YtmiiogailnjfpaaRcGrp
namespace Go.Proofs.Ytmiiogailnjfpaa
open Go.RowKit
set_option linter.unusedVariables false

def GroupI (x : GroupC) : Prop := isI x.ty ∧ isI x.ow ∧ isI x.ou ∧ isI x.ni ∧ isI x.lp ∧ isI x.nx
def refGroupOk (x : GroupC) : Bool := inR 0 200 x.ty && inR 0 1024 x.ow && inR (-1) 2048 x.ou && inR (-1) 2048 x.ni && inR (-1) 2048 x.lp && inR (-1) 65536 x.nx
def refGroupB (x : GroupC) : List Nat := putNum 2 (uIn x.ty) ++ putNum 4 (uIn x.ow) ++ ptrB x.ou ++ ptrB x.ni ++ ptrB x.lp ++ ptrB x.nx
theorem putGroupQ_eq (x : GroupC) (hx : GroupI x) : putGroupQ x = (.w ([] ++ putNum 2 (fIn x.ty 0) ++ putNum 4 (fIn x.ow 0) ++ putNum 4 (fIn x.ou (-1)) ++ putNum 4 (fIn x.ni (-1)) ++ putNum 4 (fIn x.lp (-1)) ++ putNum 4 (fIn x.nx (-1))), ((((((false || !inR 0 200 x.ty) || !inR 0 1024 x.ow) || !inR (-1) 2048 x.ou) || !inR (-1) 2048 x.ni) || !inR (-1) 2048 x.lp) || !inR (-1) 65536 x.nx)) := by
  obtain ⟨h_ty, h_ow, h_ou, h_ni, h_lp, h_nx⟩ := hx
  unfold putGroupQ groupQ groupQ6 groupQ5 groupQ4 groupQ3 groupQ2 groupQ1 groupQ0
  rw [fld_w _ _ 2 0 200 x.ty h_ty (by omega)]
  rw [fld_w _ _ 4 0 1024 x.ow h_ow (by omega)]
  rw [fld_w _ _ 4 (-1) 2048 x.ou h_ou (by omega)]
  rw [fld_w _ _ 4 (-1) 2048 x.ni h_ni (by omega)]
  rw [fld_w _ _ 4 (-1) 2048 x.lp h_lp (by omega)]
  rw [fld_w _ _ 4 (-1) 65536 x.nx h_nx (by omega)]
theorem refGroupB_eq (x : GroupC) (hx : GroupI x) : refGroupB x = [] ++ putNum 2 (fIn x.ty 0) ++ putNum 4 (fIn x.ow 0) ++ putNum 4 (fIn x.ou (-1)) ++ putNum 4 (fIn x.ni (-1)) ++ putNum 4 (fIn x.lp (-1)) ++ putNum 4 (fIn x.nx (-1)) := by
  obtain ⟨h_ty, h_ow, h_ou, h_ni, h_lp, h_nx⟩ := hx
  unfold refGroupB ptrB
  rw [fIn_zero _ h_ty, fIn_zero _ h_ow, fIn_one, fIn_one, fIn_one, fIn_one, List.nil_append]
theorem putGroupE_eq (x : GroupC) (hx : GroupI x) : putGroupE x = if refGroupOk x = true then 0 else 41 := by
  unfold putGroupE
  rw [putGroupQ_eq x hx]
  unfold Cs.endE refGroupOk
  simp only
  cases inR 0 200 x.ty <;> cases inR 0 1024 x.ow <;> cases inR (-1) 2048 x.ou <;> cases inR (-1) 2048 x.ni <;> cases inR (-1) 2048 x.lp <;> cases inR (-1) 65536 x.nx <;> rfl
theorem putGroupB_eq (x : GroupC) (hx : GroupI x) : (putGroupQ x).1.bytes = refGroupB x := by
  rw [putGroupQ_eq x hx, refGroupB_eq x hx]
  rfl
theorem refGroupB_short (x : GroupC) : (refGroupB x).length ≤ 1000 := by
  have h0 := putNum_short 2 (uIn x.ty)
  have h1 := putNum_short 4 (uIn x.ow)
  have h2 := ptrB_short x.ou
  have h3 := ptrB_short x.ni
  have h4 := ptrB_short x.lp
  have h5 := ptrB_short x.nx
  unfold refGroupB
  simp only [List.length_append]
  omega
def groupBl : GroupC := ⟨true, 0, 0, 0, 0, 0, 0⟩
theorem getGroup_back (x : GroupC) (hx : GroupI x) (hok : refGroupOk x = true) : getGroupE (refGroupB x) = 0 ∧ getGroupV (refGroupB x) = ⟨true, x.ty, x.ow, x.ou, x.ni, x.lp, x.nx⟩ := by
  have hB : refGroupB x = putNum 2 (fIn x.ty 0) ++ (putNum 4 (fIn x.ow 0) ++ (putNum 4 (fIn x.ou (-1)) ++ (putNum 4 (fIn x.ni (-1)) ++ (putNum 4 (fIn x.lp (-1)) ++ (putNum 4 (fIn x.nx (-1)) ++ ([])))))) := by rw [refGroupB_eq x hx]; simp only [List.nil_append, List.append_assoc, List.append_nil]
  rw [hB]
  unfold refGroupOk at hok
  simp only [Bool.and_eq_true] at hok
  obtain ⟨⟨⟨⟨⟨o_ty, o_ow⟩, o_ou⟩, o_ni⟩, o_lp⟩, o_nx⟩ := hok
  have k0 : fOut (lowN 2 (fIn x.ty 0)) 0 = x.ty := back 2 (by omega) 0 200 x.ty o_ty (by omega) (by decide) (by decide)
  have k1 : fOut (lowN 4 (fIn x.ow 0)) 0 = x.ow := back 4 (by omega) 0 1024 x.ow o_ow (by omega) (by decide) (by decide)
  have k2 : fOut (lowN 4 (fIn x.ou (-1))) (-1) = x.ou := back 4 (by omega) (-1) 2048 x.ou o_ou (by omega) (by decide) (by decide)
  have k3 : fOut (lowN 4 (fIn x.ni (-1))) (-1) = x.ni := back 4 (by omega) (-1) 2048 x.ni o_ni (by omega) (by decide) (by decide)
  have k4 : fOut (lowN 4 (fIn x.lp (-1))) (-1) = x.lp := back 4 (by omega) (-1) 2048 x.lp o_lp (by omega) (by decide) (by decide)
  have k5 : fOut (lowN 4 (fIn x.nx (-1))) (-1) = x.nx := back 4 (by omega) (-1) 65536 x.nx o_nx (by omega) (by decide) (by decide)
  have e0 : groupQ0 (.r (putNum 2 (fIn x.ty 0) ++ (putNum 4 (fIn x.ow 0) ++ (putNum 4 (fIn x.ou (-1)) ++ (putNum 4 (fIn x.ni (-1)) ++ (putNum 4 (fIn x.lp (-1)) ++ (putNum 4 (fIn x.nx (-1)) ++ ([]))))))) 0, false) groupBl = (.r (putNum 2 (fIn x.ty 0) ++ (putNum 4 (fIn x.ow 0) ++ (putNum 4 (fIn x.ou (-1)) ++ (putNum 4 (fIn x.ni (-1)) ++ (putNum 4 (fIn x.lp (-1)) ++ (putNum 4 (fIn x.nx (-1)) ++ ([]))))))) 0, false) := rfl
  have e1 : groupQ1 (.r (putNum 2 (fIn x.ty 0) ++ (putNum 4 (fIn x.ow 0) ++ (putNum 4 (fIn x.ou (-1)) ++ (putNum 4 (fIn x.ni (-1)) ++ (putNum 4 (fIn x.lp (-1)) ++ (putNum 4 (fIn x.nx (-1)) ++ ([]))))))) 0, false) groupBl = (.r (putNum 4 (fIn x.ow 0) ++ (putNum 4 (fIn x.ou (-1)) ++ (putNum 4 (fIn x.ni (-1)) ++ (putNum 4 (fIn x.lp (-1)) ++ (putNum 4 (fIn x.nx (-1)) ++ ([])))))) 0, false) := by
    unfold groupQ1
    rw [e0]
    refine (fld_r 2 (by omega) _ _ _ _ _ _).trans ?_
    rw [k0, o_ty]
    rfl
  have v0 : fval (groupQ0 (.r (putNum 2 (fIn x.ty 0) ++ (putNum 4 (fIn x.ow 0) ++ (putNum 4 (fIn x.ou (-1)) ++ (putNum 4 (fIn x.ni (-1)) ++ (putNum 4 (fIn x.lp (-1)) ++ (putNum 4 (fIn x.nx (-1)) ++ ([]))))))) 0, false) groupBl) 2 0 groupBl.ty = x.ty := by
    rw [e0]
    exact (fval_r 2 (by omega) _ _ _ _ _).trans k0
  have e2 : groupQ2 (.r (putNum 2 (fIn x.ty 0) ++ (putNum 4 (fIn x.ow 0) ++ (putNum 4 (fIn x.ou (-1)) ++ (putNum 4 (fIn x.ni (-1)) ++ (putNum 4 (fIn x.lp (-1)) ++ (putNum 4 (fIn x.nx (-1)) ++ ([]))))))) 0, false) groupBl = (.r (putNum 4 (fIn x.ou (-1)) ++ (putNum 4 (fIn x.ni (-1)) ++ (putNum 4 (fIn x.lp (-1)) ++ (putNum 4 (fIn x.nx (-1)) ++ ([]))))) 0, false) := by
    unfold groupQ2
    rw [e1]
    refine (fld_r 4 (by omega) _ _ _ _ _ _).trans ?_
    rw [k1, o_ow]
    rfl
  have v1 : fval (groupQ1 (.r (putNum 2 (fIn x.ty 0) ++ (putNum 4 (fIn x.ow 0) ++ (putNum 4 (fIn x.ou (-1)) ++ (putNum 4 (fIn x.ni (-1)) ++ (putNum 4 (fIn x.lp (-1)) ++ (putNum 4 (fIn x.nx (-1)) ++ ([]))))))) 0, false) groupBl) 4 0 groupBl.ow = x.ow := by
    rw [e1]
    exact (fval_r 4 (by omega) _ _ _ _ _).trans k1
  have e3 : groupQ3 (.r (putNum 2 (fIn x.ty 0) ++ (putNum 4 (fIn x.ow 0) ++ (putNum 4 (fIn x.ou (-1)) ++ (putNum 4 (fIn x.ni (-1)) ++ (putNum 4 (fIn x.lp (-1)) ++ (putNum 4 (fIn x.nx (-1)) ++ ([]))))))) 0, false) groupBl = (.r (putNum 4 (fIn x.ni (-1)) ++ (putNum 4 (fIn x.lp (-1)) ++ (putNum 4 (fIn x.nx (-1)) ++ ([])))) 0, false) := by
    unfold groupQ3
    rw [e2]
    refine (fld_r 4 (by omega) _ _ _ _ _ _).trans ?_
    rw [k2, o_ou]
    rfl
  have v2 : fval (groupQ2 (.r (putNum 2 (fIn x.ty 0) ++ (putNum 4 (fIn x.ow 0) ++ (putNum 4 (fIn x.ou (-1)) ++ (putNum 4 (fIn x.ni (-1)) ++ (putNum 4 (fIn x.lp (-1)) ++ (putNum 4 (fIn x.nx (-1)) ++ ([]))))))) 0, false) groupBl) 4 (-1) groupBl.ou = x.ou := by
    rw [e2]
    exact (fval_r 4 (by omega) _ _ _ _ _).trans k2
  have e4 : groupQ4 (.r (putNum 2 (fIn x.ty 0) ++ (putNum 4 (fIn x.ow 0) ++ (putNum 4 (fIn x.ou (-1)) ++ (putNum 4 (fIn x.ni (-1)) ++ (putNum 4 (fIn x.lp (-1)) ++ (putNum 4 (fIn x.nx (-1)) ++ ([]))))))) 0, false) groupBl = (.r (putNum 4 (fIn x.lp (-1)) ++ (putNum 4 (fIn x.nx (-1)) ++ ([]))) 0, false) := by
    unfold groupQ4
    rw [e3]
    refine (fld_r 4 (by omega) _ _ _ _ _ _).trans ?_
    rw [k3, o_ni]
    rfl
  have v3 : fval (groupQ3 (.r (putNum 2 (fIn x.ty 0) ++ (putNum 4 (fIn x.ow 0) ++ (putNum 4 (fIn x.ou (-1)) ++ (putNum 4 (fIn x.ni (-1)) ++ (putNum 4 (fIn x.lp (-1)) ++ (putNum 4 (fIn x.nx (-1)) ++ ([]))))))) 0, false) groupBl) 4 (-1) groupBl.ni = x.ni := by
    rw [e3]
    exact (fval_r 4 (by omega) _ _ _ _ _).trans k3
  have e5 : groupQ5 (.r (putNum 2 (fIn x.ty 0) ++ (putNum 4 (fIn x.ow 0) ++ (putNum 4 (fIn x.ou (-1)) ++ (putNum 4 (fIn x.ni (-1)) ++ (putNum 4 (fIn x.lp (-1)) ++ (putNum 4 (fIn x.nx (-1)) ++ ([]))))))) 0, false) groupBl = (.r (putNum 4 (fIn x.nx (-1)) ++ ([])) 0, false) := by
    unfold groupQ5
    rw [e4]
    refine (fld_r 4 (by omega) _ _ _ _ _ _).trans ?_
    rw [k4, o_lp]
    rfl
  have v4 : fval (groupQ4 (.r (putNum 2 (fIn x.ty 0) ++ (putNum 4 (fIn x.ow 0) ++ (putNum 4 (fIn x.ou (-1)) ++ (putNum 4 (fIn x.ni (-1)) ++ (putNum 4 (fIn x.lp (-1)) ++ (putNum 4 (fIn x.nx (-1)) ++ ([]))))))) 0, false) groupBl) 4 (-1) groupBl.lp = x.lp := by
    rw [e4]
    exact (fval_r 4 (by omega) _ _ _ _ _).trans k4
  have e6 : groupQ6 (.r (putNum 2 (fIn x.ty 0) ++ (putNum 4 (fIn x.ow 0) ++ (putNum 4 (fIn x.ou (-1)) ++ (putNum 4 (fIn x.ni (-1)) ++ (putNum 4 (fIn x.lp (-1)) ++ (putNum 4 (fIn x.nx (-1)) ++ ([]))))))) 0, false) groupBl = (.r ([]) 0, false) := by
    unfold groupQ6
    rw [e5]
    refine (fld_r 4 (by omega) _ _ _ _ _ _).trans ?_
    rw [k5, o_nx]
    rfl
  have v5 : fval (groupQ5 (.r (putNum 2 (fIn x.ty 0) ++ (putNum 4 (fIn x.ow 0) ++ (putNum 4 (fIn x.ou (-1)) ++ (putNum 4 (fIn x.ni (-1)) ++ (putNum 4 (fIn x.lp (-1)) ++ (putNum 4 (fIn x.nx (-1)) ++ ([]))))))) 0, false) groupBl) 4 (-1) groupBl.nx = x.nx := by
    rw [e5]
    exact (fval_r 4 (by omega) _ _ _ _ _).trans k5
  constructor
  · show (groupQ6 (.r (putNum 2 (fIn x.ty 0) ++ (putNum 4 (fIn x.ow 0) ++ (putNum 4 (fIn x.ou (-1)) ++ (putNum 4 (fIn x.ni (-1)) ++ (putNum 4 (fIn x.lp (-1)) ++ (putNum 4 (fIn x.nx (-1)) ++ ([]))))))) 0, false) groupBl).1.endE (groupQ6 (.r (putNum 2 (fIn x.ty 0) ++ (putNum 4 (fIn x.ow 0) ++ (putNum 4 (fIn x.ou (-1)) ++ (putNum 4 (fIn x.ni (-1)) ++ (putNum 4 (fIn x.lp (-1)) ++ (putNum 4 (fIn x.nx (-1)) ++ ([]))))))) 0, false) groupBl).2 = 0
    rw [e6]
    rfl
  · show groupV (.r (putNum 2 (fIn x.ty 0) ++ (putNum 4 (fIn x.ow 0) ++ (putNum 4 (fIn x.ou (-1)) ++ (putNum 4 (fIn x.ni (-1)) ++ (putNum 4 (fIn x.lp (-1)) ++ (putNum 4 (fIn x.nx (-1)) ++ ([]))))))) 0, false) groupBl = _
    unfold groupV
    rw [v0, v1, v2, v3, v4, v5]
    rfl
end Go.Proofs.Ytmiiogailnjfpaa
