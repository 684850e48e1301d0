/- A relationship's record, written and read: pure. -/
import Derived.Test.YtmiiogailnjfpaaRcPure
import Derived.Test.YtmiiogailnjfpaaRcRelG
namespace Go.Proofs.Ytmiiogailnjfpaa
open Go.RowKit
set_option linter.unusedVariables false

def RelI (x : RelC) : Prop := isI x.fr ∧ isI x.to ∧ isI x.fp ∧ isI x.tp ∧ isI x.fn ∧ isI x.tn ∧ isI x.ty ∧ isI x.pr
theorem putRelQ_eq (x : RelC) (hx : RelI x) : putRelQ x = (.w ([] ++ putNum 4 (fIn x.fr 0) ++ putNum 4 (fIn x.to 0) ++ putNum 2 (fIn x.ty 0) ++ putNum 4 (fIn x.fp (-1)) ++ putNum 4 (fIn x.fn (-1)) ++ putNum 4 (fIn x.tp (-1)) ++ putNum 4 (fIn x.tn (-1)) ++ putNum 4 (fIn x.pr (-1))), ((((((((false || !inR 0 1024 x.fr) || !inR 0 1024 x.to) || !inR 0 200 x.ty) || !inR (-1) 2048 x.fp) || !inR (-1) 2048 x.fn) || !inR (-1) 2048 x.tp) || !inR (-1) 2048 x.tn) || !inR (-1) 65536 x.pr)) := by
  obtain ⟨h_fr, h_to, h_fp, h_tp, h_fn, h_tn, h_ty, h_pr⟩ := hx
  unfold putRelQ relQ relQ8 relQ7 relQ6 relQ5 relQ4 relQ3 relQ2 relQ1 relQ0
  rw [fld_w _ _ 4 0 1024 x.fr h_fr (by omega)]
  rw [fld_w _ _ 4 0 1024 x.to h_to (by omega)]
  rw [fld_w _ _ 2 0 200 x.ty h_ty (by omega)]
  rw [fld_w _ _ 4 (-1) 2048 x.fp h_fp (by omega)]
  rw [fld_w _ _ 4 (-1) 2048 x.fn h_fn (by omega)]
  rw [fld_w _ _ 4 (-1) 2048 x.tp h_tp (by omega)]
  rw [fld_w _ _ 4 (-1) 2048 x.tn h_tn (by omega)]
  rw [fld_w _ _ 4 (-1) 65536 x.pr h_pr (by omega)]
theorem refRelB_eq (x : RelC) (hx : RelI x) : refRelB x = [] ++ putNum 4 (fIn x.fr 0) ++ putNum 4 (fIn x.to 0) ++ putNum 2 (fIn x.ty 0) ++ putNum 4 (fIn x.fp (-1)) ++ putNum 4 (fIn x.fn (-1)) ++ putNum 4 (fIn x.tp (-1)) ++ putNum 4 (fIn x.tn (-1)) ++ putNum 4 (fIn x.pr (-1)) := by
  obtain ⟨h_fr, h_to, h_fp, h_tp, h_fn, h_tn, h_ty, h_pr⟩ := hx
  unfold refRelB linkB ptrB
  rw [fIn_zero _ h_fr, fIn_zero _ h_to, fIn_zero _ h_ty, fIn_one, fIn_one, fIn_one, fIn_one, fIn_one, List.nil_append]
theorem putRelE_eq (x : RelC) (hx : RelI x) : putRelE x = if refRelOk x = true then 0 else 41 := by
  unfold putRelE
  rw [putRelQ_eq x hx]
  unfold Cs.endE refRelOk linkR
  simp only
  cases inR 0 1024 x.fr <;> cases inR 0 1024 x.to <;> cases inR 0 200 x.ty <;> cases inR (-1) 2048 x.fp <;> cases inR (-1) 2048 x.fn <;> cases inR (-1) 2048 x.tp <;> cases inR (-1) 2048 x.tn <;> cases inR (-1) 65536 x.pr <;> rfl
theorem putRelB_eq (x : RelC) (hx : RelI x) : (putRelQ x).1.bytes = refRelB x := by
  rw [putRelQ_eq x hx, refRelB_eq x hx]
  rfl

theorem refRelB_short (x : RelC) : (refRelB x).length ≤ 1000 := by
  have h1 := linkB_short x
  have h2 := ptrB_short x.pr
  unfold refRelB
  rw [List.length_append]
  omega
def relBl : RelC := ⟨true, 0, 0, 0, 0, 0, 0, 0, 0⟩
theorem getRel_back (x : RelC) (hx : RelI x) (hok : refRelOk x = true) : getRelE (refRelB x) = 0 ∧ getRelV (refRelB x) = ⟨true, x.fr, x.to, x.fp, x.tp, x.fn, x.tn, x.ty, x.pr⟩ := by
  have hB : refRelB x = putNum 4 (fIn x.fr 0) ++ (putNum 4 (fIn x.to 0) ++ (putNum 2 (fIn x.ty 0) ++ (putNum 4 (fIn x.fp (-1)) ++ (putNum 4 (fIn x.fn (-1)) ++ (putNum 4 (fIn x.tp (-1)) ++ (putNum 4 (fIn x.tn (-1)) ++ (putNum 4 (fIn x.pr (-1)) ++ ([])))))))) := by rw [refRelB_eq x hx]; simp only [List.nil_append, List.append_assoc, List.append_nil]
  rw [hB]
  unfold refRelOk linkR at hok
  simp only [Bool.and_eq_true] at hok
  obtain ⟨⟨⟨⟨⟨⟨⟨o_fr, o_to⟩, o_fp⟩, o_fn⟩, o_tp⟩, o_tn⟩, o_ty⟩, o_pr⟩ := hok
  have k0 : fOut (lowN 4 (fIn x.fr 0)) 0 = x.fr := back 4 (by omega) 0 1024 x.fr o_fr (by omega) (by decide) (by decide)
  have k1 : fOut (lowN 4 (fIn x.to 0)) 0 = x.to := back 4 (by omega) 0 1024 x.to o_to (by omega) (by decide) (by decide)
  have k2 : fOut (lowN 2 (fIn x.ty 0)) 0 = x.ty := back 2 (by omega) 0 200 x.ty o_ty (by omega) (by decide) (by decide)
  have k3 : fOut (lowN 4 (fIn x.fp (-1))) (-1) = x.fp := back 4 (by omega) (-1) 2048 x.fp o_fp (by omega) (by decide) (by decide)
  have k4 : fOut (lowN 4 (fIn x.fn (-1))) (-1) = x.fn := back 4 (by omega) (-1) 2048 x.fn o_fn (by omega) (by decide) (by decide)
  have k5 : fOut (lowN 4 (fIn x.tp (-1))) (-1) = x.tp := back 4 (by omega) (-1) 2048 x.tp o_tp (by omega) (by decide) (by decide)
  have k6 : fOut (lowN 4 (fIn x.tn (-1))) (-1) = x.tn := back 4 (by omega) (-1) 2048 x.tn o_tn (by omega) (by decide) (by decide)
  have k7 : fOut (lowN 4 (fIn x.pr (-1))) (-1) = x.pr := back 4 (by omega) (-1) 65536 x.pr o_pr (by omega) (by decide) (by decide)
  have e0 : relQ0 (.r (putNum 4 (fIn x.fr 0) ++ (putNum 4 (fIn x.to 0) ++ (putNum 2 (fIn x.ty 0) ++ (putNum 4 (fIn x.fp (-1)) ++ (putNum 4 (fIn x.fn (-1)) ++ (putNum 4 (fIn x.tp (-1)) ++ (putNum 4 (fIn x.tn (-1)) ++ (putNum 4 (fIn x.pr (-1)) ++ ([]))))))))) 0, false) relBl = (.r (putNum 4 (fIn x.fr 0) ++ (putNum 4 (fIn x.to 0) ++ (putNum 2 (fIn x.ty 0) ++ (putNum 4 (fIn x.fp (-1)) ++ (putNum 4 (fIn x.fn (-1)) ++ (putNum 4 (fIn x.tp (-1)) ++ (putNum 4 (fIn x.tn (-1)) ++ (putNum 4 (fIn x.pr (-1)) ++ ([]))))))))) 0, false) := rfl
  have e1 : relQ1 (.r (putNum 4 (fIn x.fr 0) ++ (putNum 4 (fIn x.to 0) ++ (putNum 2 (fIn x.ty 0) ++ (putNum 4 (fIn x.fp (-1)) ++ (putNum 4 (fIn x.fn (-1)) ++ (putNum 4 (fIn x.tp (-1)) ++ (putNum 4 (fIn x.tn (-1)) ++ (putNum 4 (fIn x.pr (-1)) ++ ([]))))))))) 0, false) relBl = (.r (putNum 4 (fIn x.to 0) ++ (putNum 2 (fIn x.ty 0) ++ (putNum 4 (fIn x.fp (-1)) ++ (putNum 4 (fIn x.fn (-1)) ++ (putNum 4 (fIn x.tp (-1)) ++ (putNum 4 (fIn x.tn (-1)) ++ (putNum 4 (fIn x.pr (-1)) ++ ([])))))))) 0, false) := by
    unfold relQ1
    rw [e0]
    refine (fld_r 4 (by omega) _ _ _ _ _ _).trans ?_
    rw [k0, o_fr]
    rfl
  have v0 : fval (relQ0 (.r (putNum 4 (fIn x.fr 0) ++ (putNum 4 (fIn x.to 0) ++ (putNum 2 (fIn x.ty 0) ++ (putNum 4 (fIn x.fp (-1)) ++ (putNum 4 (fIn x.fn (-1)) ++ (putNum 4 (fIn x.tp (-1)) ++ (putNum 4 (fIn x.tn (-1)) ++ (putNum 4 (fIn x.pr (-1)) ++ ([]))))))))) 0, false) relBl) 4 0 relBl.fr = x.fr := by
    rw [e0]
    exact (fval_r 4 (by omega) _ _ _ _ _).trans k0
  have e2 : relQ2 (.r (putNum 4 (fIn x.fr 0) ++ (putNum 4 (fIn x.to 0) ++ (putNum 2 (fIn x.ty 0) ++ (putNum 4 (fIn x.fp (-1)) ++ (putNum 4 (fIn x.fn (-1)) ++ (putNum 4 (fIn x.tp (-1)) ++ (putNum 4 (fIn x.tn (-1)) ++ (putNum 4 (fIn x.pr (-1)) ++ ([]))))))))) 0, false) relBl = (.r (putNum 2 (fIn x.ty 0) ++ (putNum 4 (fIn x.fp (-1)) ++ (putNum 4 (fIn x.fn (-1)) ++ (putNum 4 (fIn x.tp (-1)) ++ (putNum 4 (fIn x.tn (-1)) ++ (putNum 4 (fIn x.pr (-1)) ++ ([]))))))) 0, false) := by
    unfold relQ2
    rw [e1]
    refine (fld_r 4 (by omega) _ _ _ _ _ _).trans ?_
    rw [k1, o_to]
    rfl
  have v1 : fval (relQ1 (.r (putNum 4 (fIn x.fr 0) ++ (putNum 4 (fIn x.to 0) ++ (putNum 2 (fIn x.ty 0) ++ (putNum 4 (fIn x.fp (-1)) ++ (putNum 4 (fIn x.fn (-1)) ++ (putNum 4 (fIn x.tp (-1)) ++ (putNum 4 (fIn x.tn (-1)) ++ (putNum 4 (fIn x.pr (-1)) ++ ([]))))))))) 0, false) relBl) 4 0 relBl.to = x.to := by
    rw [e1]
    exact (fval_r 4 (by omega) _ _ _ _ _).trans k1
  have e3 : relQ3 (.r (putNum 4 (fIn x.fr 0) ++ (putNum 4 (fIn x.to 0) ++ (putNum 2 (fIn x.ty 0) ++ (putNum 4 (fIn x.fp (-1)) ++ (putNum 4 (fIn x.fn (-1)) ++ (putNum 4 (fIn x.tp (-1)) ++ (putNum 4 (fIn x.tn (-1)) ++ (putNum 4 (fIn x.pr (-1)) ++ ([]))))))))) 0, false) relBl = (.r (putNum 4 (fIn x.fp (-1)) ++ (putNum 4 (fIn x.fn (-1)) ++ (putNum 4 (fIn x.tp (-1)) ++ (putNum 4 (fIn x.tn (-1)) ++ (putNum 4 (fIn x.pr (-1)) ++ ([])))))) 0, false) := by
    unfold relQ3
    rw [e2]
    refine (fld_r 2 (by omega) _ _ _ _ _ _).trans ?_
    rw [k2, o_ty]
    rfl
  have v2 : fval (relQ2 (.r (putNum 4 (fIn x.fr 0) ++ (putNum 4 (fIn x.to 0) ++ (putNum 2 (fIn x.ty 0) ++ (putNum 4 (fIn x.fp (-1)) ++ (putNum 4 (fIn x.fn (-1)) ++ (putNum 4 (fIn x.tp (-1)) ++ (putNum 4 (fIn x.tn (-1)) ++ (putNum 4 (fIn x.pr (-1)) ++ ([]))))))))) 0, false) relBl) 2 0 relBl.ty = x.ty := by
    rw [e2]
    exact (fval_r 2 (by omega) _ _ _ _ _).trans k2
  have e4 : relQ4 (.r (putNum 4 (fIn x.fr 0) ++ (putNum 4 (fIn x.to 0) ++ (putNum 2 (fIn x.ty 0) ++ (putNum 4 (fIn x.fp (-1)) ++ (putNum 4 (fIn x.fn (-1)) ++ (putNum 4 (fIn x.tp (-1)) ++ (putNum 4 (fIn x.tn (-1)) ++ (putNum 4 (fIn x.pr (-1)) ++ ([]))))))))) 0, false) relBl = (.r (putNum 4 (fIn x.fn (-1)) ++ (putNum 4 (fIn x.tp (-1)) ++ (putNum 4 (fIn x.tn (-1)) ++ (putNum 4 (fIn x.pr (-1)) ++ ([]))))) 0, false) := by
    unfold relQ4
    rw [e3]
    refine (fld_r 4 (by omega) _ _ _ _ _ _).trans ?_
    rw [k3, o_fp]
    rfl
  have v3 : fval (relQ3 (.r (putNum 4 (fIn x.fr 0) ++ (putNum 4 (fIn x.to 0) ++ (putNum 2 (fIn x.ty 0) ++ (putNum 4 (fIn x.fp (-1)) ++ (putNum 4 (fIn x.fn (-1)) ++ (putNum 4 (fIn x.tp (-1)) ++ (putNum 4 (fIn x.tn (-1)) ++ (putNum 4 (fIn x.pr (-1)) ++ ([]))))))))) 0, false) relBl) 4 (-1) relBl.fp = x.fp := by
    rw [e3]
    exact (fval_r 4 (by omega) _ _ _ _ _).trans k3
  have e5 : relQ5 (.r (putNum 4 (fIn x.fr 0) ++ (putNum 4 (fIn x.to 0) ++ (putNum 2 (fIn x.ty 0) ++ (putNum 4 (fIn x.fp (-1)) ++ (putNum 4 (fIn x.fn (-1)) ++ (putNum 4 (fIn x.tp (-1)) ++ (putNum 4 (fIn x.tn (-1)) ++ (putNum 4 (fIn x.pr (-1)) ++ ([]))))))))) 0, false) relBl = (.r (putNum 4 (fIn x.tp (-1)) ++ (putNum 4 (fIn x.tn (-1)) ++ (putNum 4 (fIn x.pr (-1)) ++ ([])))) 0, false) := by
    unfold relQ5
    rw [e4]
    refine (fld_r 4 (by omega) _ _ _ _ _ _).trans ?_
    rw [k4, o_fn]
    rfl
  have v4 : fval (relQ4 (.r (putNum 4 (fIn x.fr 0) ++ (putNum 4 (fIn x.to 0) ++ (putNum 2 (fIn x.ty 0) ++ (putNum 4 (fIn x.fp (-1)) ++ (putNum 4 (fIn x.fn (-1)) ++ (putNum 4 (fIn x.tp (-1)) ++ (putNum 4 (fIn x.tn (-1)) ++ (putNum 4 (fIn x.pr (-1)) ++ ([]))))))))) 0, false) relBl) 4 (-1) relBl.fn = x.fn := by
    rw [e4]
    exact (fval_r 4 (by omega) _ _ _ _ _).trans k4
  have e6 : relQ6 (.r (putNum 4 (fIn x.fr 0) ++ (putNum 4 (fIn x.to 0) ++ (putNum 2 (fIn x.ty 0) ++ (putNum 4 (fIn x.fp (-1)) ++ (putNum 4 (fIn x.fn (-1)) ++ (putNum 4 (fIn x.tp (-1)) ++ (putNum 4 (fIn x.tn (-1)) ++ (putNum 4 (fIn x.pr (-1)) ++ ([]))))))))) 0, false) relBl = (.r (putNum 4 (fIn x.tn (-1)) ++ (putNum 4 (fIn x.pr (-1)) ++ ([]))) 0, false) := by
    unfold relQ6
    rw [e5]
    refine (fld_r 4 (by omega) _ _ _ _ _ _).trans ?_
    rw [k5, o_tp]
    rfl
  have v5 : fval (relQ5 (.r (putNum 4 (fIn x.fr 0) ++ (putNum 4 (fIn x.to 0) ++ (putNum 2 (fIn x.ty 0) ++ (putNum 4 (fIn x.fp (-1)) ++ (putNum 4 (fIn x.fn (-1)) ++ (putNum 4 (fIn x.tp (-1)) ++ (putNum 4 (fIn x.tn (-1)) ++ (putNum 4 (fIn x.pr (-1)) ++ ([]))))))))) 0, false) relBl) 4 (-1) relBl.tp = x.tp := by
    rw [e5]
    exact (fval_r 4 (by omega) _ _ _ _ _).trans k5
  have e7 : relQ7 (.r (putNum 4 (fIn x.fr 0) ++ (putNum 4 (fIn x.to 0) ++ (putNum 2 (fIn x.ty 0) ++ (putNum 4 (fIn x.fp (-1)) ++ (putNum 4 (fIn x.fn (-1)) ++ (putNum 4 (fIn x.tp (-1)) ++ (putNum 4 (fIn x.tn (-1)) ++ (putNum 4 (fIn x.pr (-1)) ++ ([]))))))))) 0, false) relBl = (.r (putNum 4 (fIn x.pr (-1)) ++ ([])) 0, false) := by
    unfold relQ7
    rw [e6]
    refine (fld_r 4 (by omega) _ _ _ _ _ _).trans ?_
    rw [k6, o_tn]
    rfl
  have v6 : fval (relQ6 (.r (putNum 4 (fIn x.fr 0) ++ (putNum 4 (fIn x.to 0) ++ (putNum 2 (fIn x.ty 0) ++ (putNum 4 (fIn x.fp (-1)) ++ (putNum 4 (fIn x.fn (-1)) ++ (putNum 4 (fIn x.tp (-1)) ++ (putNum 4 (fIn x.tn (-1)) ++ (putNum 4 (fIn x.pr (-1)) ++ ([]))))))))) 0, false) relBl) 4 (-1) relBl.tn = x.tn := by
    rw [e6]
    exact (fval_r 4 (by omega) _ _ _ _ _).trans k6
  have e8 : relQ8 (.r (putNum 4 (fIn x.fr 0) ++ (putNum 4 (fIn x.to 0) ++ (putNum 2 (fIn x.ty 0) ++ (putNum 4 (fIn x.fp (-1)) ++ (putNum 4 (fIn x.fn (-1)) ++ (putNum 4 (fIn x.tp (-1)) ++ (putNum 4 (fIn x.tn (-1)) ++ (putNum 4 (fIn x.pr (-1)) ++ ([]))))))))) 0, false) relBl = (.r ([]) 0, false) := by
    unfold relQ8
    rw [e7]
    refine (fld_r 4 (by omega) _ _ _ _ _ _).trans ?_
    rw [k7, o_pr]
    rfl
  have v7 : fval (relQ7 (.r (putNum 4 (fIn x.fr 0) ++ (putNum 4 (fIn x.to 0) ++ (putNum 2 (fIn x.ty 0) ++ (putNum 4 (fIn x.fp (-1)) ++ (putNum 4 (fIn x.fn (-1)) ++ (putNum 4 (fIn x.tp (-1)) ++ (putNum 4 (fIn x.tn (-1)) ++ (putNum 4 (fIn x.pr (-1)) ++ ([]))))))))) 0, false) relBl) 4 (-1) relBl.pr = x.pr := by
    rw [e7]
    exact (fval_r 4 (by omega) _ _ _ _ _).trans k7
  constructor
  · show (relQ8 (.r (putNum 4 (fIn x.fr 0) ++ (putNum 4 (fIn x.to 0) ++ (putNum 2 (fIn x.ty 0) ++ (putNum 4 (fIn x.fp (-1)) ++ (putNum 4 (fIn x.fn (-1)) ++ (putNum 4 (fIn x.tp (-1)) ++ (putNum 4 (fIn x.tn (-1)) ++ (putNum 4 (fIn x.pr (-1)) ++ ([]))))))))) 0, false) relBl).1.endE (relQ8 (.r (putNum 4 (fIn x.fr 0) ++ (putNum 4 (fIn x.to 0) ++ (putNum 2 (fIn x.ty 0) ++ (putNum 4 (fIn x.fp (-1)) ++ (putNum 4 (fIn x.fn (-1)) ++ (putNum 4 (fIn x.tp (-1)) ++ (putNum 4 (fIn x.tn (-1)) ++ (putNum 4 (fIn x.pr (-1)) ++ ([]))))))))) 0, false) relBl).2 = 0
    rw [e8]
    rfl
  · show relV (.r (putNum 4 (fIn x.fr 0) ++ (putNum 4 (fIn x.to 0) ++ (putNum 2 (fIn x.ty 0) ++ (putNum 4 (fIn x.fp (-1)) ++ (putNum 4 (fIn x.fn (-1)) ++ (putNum 4 (fIn x.tp (-1)) ++ (putNum 4 (fIn x.tn (-1)) ++ (putNum 4 (fIn x.pr (-1)) ++ ([]))))))))) 0, false) relBl = _
    unfold relV
    rw [v0, v1, v2, v3, v4, v5, v6, v7]
    rfl
end Go.Proofs.Ytmiiogailnjfpaa
