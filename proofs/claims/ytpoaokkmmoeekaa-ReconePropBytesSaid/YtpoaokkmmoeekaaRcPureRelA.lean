/- A relationship's record, written and read: pure. -/
import Derived.Test.YtpoaokkmmoeekaaRcPureA
import Derived.Test.YtpoaokkmmoeekaaRcRelA
namespace Go.Proofs.Ytpoaokkmmoeekaa
open Go.RowKit
set_option linter.unusedVariables false

def RelI (x : RelC) : Prop := isI x.fr ∧ isI x.to ∧ isI x.fp ∧ isI x.tp ∧ isI x.fn ∧ isI x.tn ∧ isI x.ty ∧ isI x.pr
theorem putRelQ_eq (x : RelC) (hx : RelI x) : putRelQ x = (.w ([] ++ putNum 4 (fIn x.fr 0) ++ putNum 4 (fIn x.to 0) ++ putNum 2 (fIn x.ty 0) ++ putNum 4 (fIn x.fp (-1)) ++ putNum 4 (fIn x.fn (-1)) ++ putNum 4 (fIn x.tp (-1)) ++ putNum 4 (fIn x.tn (-1)) ++ putNum 4 (fIn x.pr (-1))), ((((((((false || !inR 0 1024 x.fr) || !inR 0 1024 x.to) || !inR 0 200 x.ty) || !inR (-1) 2048 x.fp) || !inR (-1) 2048 x.fn) || !inR (-1) 2048 x.tp) || !inR (-1) 2048 x.tn) || !inR (-1) 65536 x.pr)) := by
  obtain ⟨h_fr, h_to, h_fp, h_tp, h_fn, h_tn, h_ty, h_pr⟩ := hx
  unfold putRelQ relQ relQ8 relQ7 relQ6 relQ5 relQ4 relQ3 relQ2 relQ1 relQ0
  rw [fld_w _ _ 4 0 1024 x.fr h_fr (by omega)]
  rw [fld_w _ _ 4 0 1024 x.to h_to (by omega)]
  rw [fld_w _ _ 2 0 200 x.ty h_ty (by omega)]
  rw [fld_w _ _ 4 (-1) 2048 x.fp h_fp (by omega)]
  rw [fld_w _ _ 4 (-1) 2048 x.fn h_fn (by omega)]
  rw [fld_w _ _ 4 (-1) 2048 x.tp h_tp (by omega)]
  rw [fld_w _ _ 4 (-1) 2048 x.tn h_tn (by omega)]
  rw [fld_w _ _ 4 (-1) 65536 x.pr h_pr (by omega)]
theorem refRelB_eq (x : RelC) (hx : RelI x) : refRelB x = [] ++ putNum 4 (fIn x.fr 0) ++ putNum 4 (fIn x.to 0) ++ putNum 2 (fIn x.ty 0) ++ putNum 4 (fIn x.fp (-1)) ++ putNum 4 (fIn x.fn (-1)) ++ putNum 4 (fIn x.tp (-1)) ++ putNum 4 (fIn x.tn (-1)) ++ putNum 4 (fIn x.pr (-1)) := by
  obtain ⟨h_fr, h_to, h_fp, h_tp, h_fn, h_tn, h_ty, h_pr⟩ := hx
  unfold refRelB linkB ptrB
  rw [fIn_zero _ h_fr, fIn_zero _ h_to, fIn_zero _ h_ty, fIn_one, fIn_one, fIn_one, fIn_one, fIn_one, List.nil_append]
theorem putRelE_eq (x : RelC) (hx : RelI x) : putRelE x = if refRelOk x = true then 0 else 41 := by
  unfold putRelE
  rw [putRelQ_eq x hx]
  unfold Cs.endE refRelOk linkR
  simp only
  cases inR 0 1024 x.fr <;> cases inR 0 1024 x.to <;> cases inR 0 200 x.ty <;> cases inR (-1) 2048 x.fp <;> cases inR (-1) 2048 x.fn <;> cases inR (-1) 2048 x.tp <;> cases inR (-1) 2048 x.tn <;> cases inR (-1) 65536 x.pr <;> rfl
theorem putRelB_eq (x : RelC) (hx : RelI x) : (putRelQ x).1.bytes = refRelB x := by
  rw [putRelQ_eq x hx, refRelB_eq x hx]
  rfl

theorem refRelB_short (x : RelC) : (refRelB x).length ≤ 1000 := by
  have h1 := linkB_short x
  have h2 := ptrB_short x.pr
  unfold refRelB
  rw [List.length_append]
  omega
def relBl : RelC := ⟨true, 0, 0, 0, 0, 0, 0, 0, 0⟩
theorem getRel_back (x : RelC) (hx : RelI x) (hok : refRelOk x = true) : getRelE (refRelB x) = 0 ∧ getRelV (refRelB x) = ⟨true, x.fr, x.to, x.fp, x.tp, x.fn, x.tn, x.ty, x.pr⟩ := by
  have hB : refRelB x = putNum 4 (fIn x.fr 0) ++ (putNum 4 (fIn x.to 0) ++ (putNum 2 (fIn x.ty 0) ++ (putNum 4 (fIn x.fp (-1)) ++ (putNum 4 (fIn x.fn (-1)) ++ (putNum 4 (fIn x.tp (-1)) ++ (putNum 4 (fIn x.tn (-1)) ++ (putNum 4 (fIn x.pr (-1)) ++ ([])))))))) := by rw [refRelB_eq x hx]; simp only [List.nil_append, List.append_assoc, List.append_nil]
  rw [hB]
  unfold refRelOk linkR at hok
  simp only [Bool.and_eq_true] at hok
  obtain ⟨⟨⟨⟨⟨⟨⟨o_fr, o_to⟩, o_fp⟩, o_fn⟩, o_tp⟩, o_tn⟩, o_ty⟩, o_pr⟩ := hok
  have k0 : fOut (lowN 4 (fIn x.fr 0)) 0 = x.fr := back 4 (by omega) 0 1024 x.fr o_fr (by omega) (by decide) (by decide)
  have k1 : fOut (lowN 4 (fIn x.to 0)) 0 = x.to := back 4 (by omega) 0 1024 x.to o_to (by omega) (by decide) (by decide)
  have k2 : fOut (lowN 2 (fIn x.ty 0)) 0 = x.ty := back 2 (by omega) 0 200 x.ty o_ty (by omega) (by decide) (by decide)
  have k3 : fOut (lowN 4 (fIn x.fp (-1))) (-1) = x.fp := back 4 (by omega) (-1) 2048 x.fp o_fp (by omega) (by decide) (by decide)
  have k4 : fOut (lowN 4 (fIn x.fn (-1))) (-1) = x.fn := back 4 (by omega) (-1) 2048 x.fn o_fn (by omega) (by decide) (by decide)
  have k5 : fOut (lowN 4 (fIn x.tp (-1))) (-1) = x.tp := back 4 (by omega) (-1) 2048 x.tp o_tp (by omega) (by decide) (by decide)
  have k6 : fOut (lowN 4 (fIn x.tn (-1))) (-1) = x.tn := back 4 (by omega) (-1) 2048 x.tn o_tn (by omega) (by decide) (by decide)
  have k7 : fOut (lowN 4 (fIn x.pr (-1))) (-1) = x.pr := back 4 (by omega) (-1) 65536 x.pr o_pr (by omega) (by decide) (by decide)
  have e0 : relQ0 (.r (putNum 4 (fIn x.fr 0) ++ (putNum 4 (fIn x.to 0) ++ (putNum 2 (fIn x.ty 0) ++ (putNum 4 (fIn x.fp (-1)) ++ (putNum 4 (fIn x.fn (-1)) ++ (putNum 4 (fIn x.tp (-1)) ++ (putNum 4 (fIn x.tn (-1)) ++ (putNum 4 (fIn x.pr (-1)) ++ ([]))))))))) 0, false) relBl = (.r (putNum 4 (fIn x.fr 0) ++ (putNum 4 (fIn x.to 0) ++ (putNum 2 (fIn x.ty 0) ++ (putNum 4 (fIn x.fp (-1)) ++ (putNum 4 (fIn x.fn (-1)) ++ (putNum 4 (fIn x.tp (-1)) ++ (putNum 4 (fIn x.tn (-1)) ++ (putNum 4 (fIn x.pr (-1)) ++ ([]))))))))) 0, false) := rfl
  have e1 : relQ1 (.r (putNum 4 (fIn x.fr 0) ++ (putNum 4 (fIn x.to 0) ++ (putNum 2 (fIn x.ty 0) ++ (putNum 4 (fIn x.fp (-1)) ++ (putNum 4 (fIn x.fn (-1)) ++ (putNum 4 (fIn x.tp (-1)) ++ (putNum 4 (fIn x.tn (-1)) ++ (putNum 4 (fIn x.pr (-1)) ++ ([]))))))))) 0, false) relBl = (.r (putNum 4 (fIn x.to 0) ++ (putNum 2 (fIn x.ty 0) ++ (putNum 4 (fIn x.fp (-1)) ++ (putNum 4 (fIn x.fn (-1)) ++ (putNum 4 (fIn x.tp (-1)) ++ (putNum 4 (fIn x.tn (-1)) ++ (putNum 4 (fIn x.pr (-1)) ++ ([])))))))) 0, false) := by
    unfold relQ1
    rw [e0]
    refine (fld_r 4 (by omega) _ _ _ _ _ _).trans ?_
    rw [k0, o_fr]
    rfl
  have v0 : fval (relQ0 (.r (putNum 4 (fIn x.fr 0) ++ (putNum 4 (fIn x.to 0) ++ (putNum 2 (fIn x.ty 0) ++ (putNum 4 (fIn x.fp (-1)) ++ (putNum 4 (fIn x.fn (-1)) ++ (putNum 4 (fIn x.tp (-1)) ++ (putNum 4 (fIn x.tn (-1)) ++ (putNum 4 (fIn x.pr (-1)) ++ ([]))))))))) 0, false) relBl) 4 0 relBl.fr = x.fr := by
    rw [e0]
    exact (fval_r 4 (by omega) _ _ _ _ _).trans k0
  have e2 : relQ2 (.r (putNum 4 (fIn x.fr 0) ++ (putNum 4 (fIn x.to 0) ++ (putNum 2 (fIn x.ty 0) ++ (putNum 4 (fIn x.fp (-1)) ++ (putNum 4 (fIn x.fn (-1)) ++ (putNum 4 (fIn x.tp (-1)) ++ (putNum 4 (fIn x.tn (-1)) ++ (putNum 4 (fIn x.pr (-1)) ++ ([]))))))))) 0, false) relBl = (.r (putNum 2 (fIn x.ty 0) ++ (putNum 4 (fIn x.fp (-1)) ++ (putNum 4 (fIn x.fn (-1)) ++ (putNum 4 (fIn x.tp (-1)) ++ (putNum 4 (fIn x.tn (-1)) ++ (putNum 4 (fIn x.pr (-1)) ++ ([]))))))) 0, false) := by
    unfold relQ2
    rw [e1]
    refine (fld_r 4 (by omega) _ _ _ _ _ _).trans ?_
    rw [k1, o_to]
    rfl
  have v1 : fval (relQ1 (.r (putNum 4 (fIn x.fr 0) ++ (putNum 4 (fIn x.to 0) ++ (putNum 2 (fIn x.ty 0) ++ (putNum 4 (fIn x.fp (-1)) ++ (putNum 4 (fIn x.fn (-1)) ++ (putNum 4 (fIn x.tp (-1)) ++ (putNum 4 (fIn x.tn (-1)) ++ (putNum 4 (fIn x.pr (-1)) ++ ([]))))))))) 0, false) relBl) 4 0 relBl.to = x.to := by
    rw [e1]
    exact (fval_r 4 (by omega) _ _ _ _ _).trans k1
  have e3 : relQ3 (.r (putNum 4 (fIn x.fr 0) ++ (putNum 4 (fIn x.to 0) ++ (putNum 2 (fIn x.ty 0) ++ (putNum 4 (fIn x.fp (-1)) ++ (putNum 4 (fIn x.fn (-1)) ++ (putNum 4 (fIn x.tp (-1)) ++ (putNum 4 (fIn x.tn (-1)) ++ (putNum 4 (fIn x.pr (-1)) ++ ([]))))))))) 0, false) relBl = (.r (putNum 4 (fIn x.fp (-1)) ++ (putNum 4 (fIn x.fn (-1)) ++ (putNum 4 (fIn x.tp (-1)) ++ (putNum 4 (fIn x.tn (-1)) ++ (putNum 4 (fIn x.pr (-1)) ++ ([])))))) 0, false) := by
    unfold relQ3
    rw [e2]
    refine (fld_r 2 (by omega) _ _ _ _ _ _).trans ?_
    rw [k2, o_ty]
    rfl
  have v2 : fval (relQ2 (.r (putNum 4 (fIn x.fr 0) ++ (putNum 4 (fIn x.to 0) ++ (putNum 2 (fIn x.ty 0) ++ (putNum 4 (fIn x.fp (-1)) ++ (putNum 4 (fIn x.fn (-1)) ++ (putNum 4 (fIn x.tp (-1)) ++ (putNum 4 (fIn x.tn (-1)) ++ (putNum 4 (fIn x.pr (-1)) ++ ([]))))))))) 0, false) relBl) 2 0 relBl.ty = x.ty := by
    rw [e2]
    exact (fval_r 2 (by omega) _ _ _ _ _).trans k2
  have e4 : relQ4 (.r (putNum 4 (fIn x.fr 0) ++ (putNum 4 (fIn x.to 0) ++ (putNum 2 (fIn x.ty 0) ++ (putNum 4 (fIn x.fp (-1)) ++ (putNum 4 (fIn x.fn (-1)) ++ (putNum 4 (fIn x.tp (-1)) ++ (putNum 4 (fIn x.tn (-1)) ++ (putNum 4 (fIn x.pr (-1)) ++ ([]))))))))) 0, false) relBl = (.r (putNum 4 (fIn x.fn (-1)) ++ (putNum 4 (fIn x.tp (-1)) ++ (putNum 4 (fIn x.tn (-1)) ++ (putNum 4 (fIn x.pr (-1)) ++ ([]))))) 0, false) := by
    unfold relQ4
    rw [e3]
    refine (fld_r 4 (by omega) _ _ _ _ _ _).trans ?_
    rw [k3, o_fp]
    rfl
  have v3 : fval (relQ3 (.r (putNum 4 (fIn x.fr 0) ++ (putNum 4 (fIn x.to 0) ++ (putNum 2 (fIn x.ty 0) ++ (putNum 4 (fIn x.fp (-1)) ++ (putNum 4 (fIn x.fn (-1)) ++ (putNum 4 (fIn x.tp (-1)) ++ (putNum 4 (fIn x.tn (-1)) ++ (putNum 4 (fIn x.pr (-1)) ++ ([]))))))))) 0, false) relBl) 4 (-1) relBl.fp = x.fp := by
    rw [e3]
    exact (fval_r 4 (by omega) _ _ _ _ _).trans k3
  have e5 : relQ5 (.r (putNum 4 (fIn x.fr 0) ++ (putNum 4 (fIn x.to 0) ++ (putNum 2 (fIn x.ty 0) ++ (putNum 4 (fIn x.fp (-1)) ++ (putNum 4 (fIn x.fn (-1)) ++ (putNum 4 (fIn x.tp (-1)) ++ (putNum 4 (fIn x.tn (-1)) ++ (putNum 4 (fIn x.pr (-1)) ++ ([]))))))))) 0, false) relBl = (.r (putNum 4 (fIn x.tp (-1)) ++ (putNum 4 (fIn x.tn (-1)) ++ (putNum 4 (fIn x.pr (-1)) ++ ([])))) 0, false) := by
    unfold relQ5
    rw [e4]
    refine (fld_r 4 (by omega) _ _ _ _ _ _).trans ?_
    rw [k4, o_fn]
    rfl
  have v4 : fval (relQ4 (.r (putNum 4 (fIn x.fr 0) ++ (putNum 4 (fIn x.to 0) ++ (putNum 2 (fIn x.ty 0) ++ (putNum 4 (fIn x.fp (-1)) ++ (putNum 4 (fIn x.fn (-1)) ++ (putNum 4 (fIn x.tp (-1)) ++ (putNum 4 (fIn x.tn (-1)) ++ (putNum 4 (fIn x.pr (-1)) ++ ([]))))))))) 0, false) relBl) 4 (-1) relBl.fn = x.fn := by
    rw [e4]
    exact (fval_r 4 (by omega) _ _ _ _ _).trans k4
  have e6 : relQ6 (.r (putNum 4 (fIn x.fr 0) ++ (putNum 4 (fIn x.to 0) ++ (putNum 2 (fIn x.ty 0) ++ (putNum 4 (fIn x.fp (-1)) ++ (putNum 4 (fIn x.fn (-1)) ++ (putNum 4 (fIn x.tp (-1)) ++ (putNum 4 (fIn x.tn (-1)) ++ (putNum 4 (fIn x.pr (-1)) ++ ([]))))))))) 0, false) relBl = (.r (putNum 4 (fIn x.tn (-1)) ++ (putNum 4 (fIn x.pr (-1)) ++ ([]))) 0, false) := by
    unfold relQ6
    rw [e5]
    refine (fld_r 4 (by omega) _ _ _ _ _ _).trans ?_
    rw [k5, o_tp]
    rfl
  have v5 : fval (relQ5 (.r (putNum 4 (fIn x.fr 0) ++ (putNum 4 (fIn x.to 0) ++ (putNum 2 (fIn x.ty 0) ++ (putNum 4 (fIn x.fp (-1)) ++ (putNum 4 (fIn x.fn (-1)) ++ (putNum 4 (fIn x.tp (-1)) ++ (putNum 4 (fIn x.tn (-1)) ++ (putNum 4 (fIn x.pr (-1)) ++ ([]))))))))) 0, false) relBl) 4 (-1) relBl.tp = x.tp := by
    rw [e5]
    exact (fval_r 4 (by omega) _ _ _ _ _).trans k5
  have e7 : relQ7 (.r (putNum 4 (fIn x.fr 0) ++ (putNum 4 (fIn x.to 0) ++ (putNum 2 (fIn x.ty 0) ++ (putNum 4 (fIn x.fp (-1)) ++ (putNum 4 (fIn x.fn (-1)) ++ (putNum 4 (fIn x.tp (-1)) ++ (putNum 4 (fIn x.tn (-1)) ++ (putNum 4 (fIn x.pr (-1)) ++ ([]))))))))) 0, false) relBl = (.r (putNum 4 (fIn x.pr (-1)) ++ ([])) 0, false) := by
    unfold relQ7
    rw [e6]
    refine (fld_r 4 (by omega) _ _ _ _ _ _).trans ?_
    rw [k6, o_tn]
    rfl
  have v6 : fval (relQ6 (.r (putNum 4 (fIn x.fr 0) ++ (putNum 4 (fIn x.to 0) ++ (putNum 2 (fIn x.ty 0) ++ (putNum 4 (fIn x.fp (-1)) ++ (putNum 4 (fIn x.fn (-1)) ++ (putNum 4 (fIn x.tp (-1)) ++ (putNum 4 (fIn x.tn (-1)) ++ (putNum 4 (fIn x.pr (-1)) ++ ([]))))))))) 0, false) relBl) 4 (-1) relBl.tn = x.tn := by
    rw [e6]
    exact (fval_r 4 (by omega) _ _ _ _ _).trans k6
  have e8 : relQ8 (.r (putNum 4 (fIn x.fr 0) ++ (putNum 4 (fIn x.to 0) ++ (putNum 2 (fIn x.ty 0) ++ (putNum 4 (fIn x.fp (-1)) ++ (putNum 4 (fIn x.fn (-1)) ++ (putNum 4 (fIn x.tp (-1)) ++ (putNum 4 (fIn x.tn (-1)) ++ (putNum 4 (fIn x.pr (-1)) ++ ([]))))))))) 0, false) relBl = (.r ([]) 0, false) := by
    unfold relQ8
    rw [e7]
    refine (fld_r 4 (by omega) _ _ _ _ _ _).trans ?_
    rw [k7, o_pr]
    rfl
  have v7 : fval (relQ7 (.r (putNum 4 (fIn x.fr 0) ++ (putNum 4 (fIn x.to 0) ++ (putNum 2 (fIn x.ty 0) ++ (putNum 4 (fIn x.fp (-1)) ++ (putNum 4 (fIn x.fn (-1)) ++ (putNum 4 (fIn x.tp (-1)) ++ (putNum 4 (fIn x.tn (-1)) ++ (putNum 4 (fIn x.pr (-1)) ++ ([]))))))))) 0, false) relBl) 4 (-1) relBl.pr = x.pr := by
    rw [e7]
    exact (fval_r 4 (by omega) _ _ _ _ _).trans k7
  constructor
  · show (relQ8 (.r (putNum 4 (fIn x.fr 0) ++ (putNum 4 (fIn x.to 0) ++ (putNum 2 (fIn x.ty 0) ++ (putNum 4 (fIn x.fp (-1)) ++ (putNum 4 (fIn x.fn (-1)) ++ (putNum 4 (fIn x.tp (-1)) ++ (putNum 4 (fIn x.tn (-1)) ++ (putNum 4 (fIn x.pr (-1)) ++ ([]))))))))) 0, false) relBl).1.endE (relQ8 (.r (putNum 4 (fIn x.fr 0) ++ (putNum 4 (fIn x.to 0) ++ (putNum 2 (fIn x.ty 0) ++ (putNum 4 (fIn x.fp (-1)) ++ (putNum 4 (fIn x.fn (-1)) ++ (putNum 4 (fIn x.tp (-1)) ++ (putNum 4 (fIn x.tn (-1)) ++ (putNum 4 (fIn x.pr (-1)) ++ ([]))))))))) 0, false) relBl).2 = 0
    rw [e8]
    rfl
  · show relV (.r (putNum 4 (fIn x.fr 0) ++ (putNum 4 (fIn x.to 0) ++ (putNum 2 (fIn x.ty 0) ++ (putNum 4 (fIn x.fp (-1)) ++ (putNum 4 (fIn x.fn (-1)) ++ (putNum 4 (fIn x.tp (-1)) ++ (putNum 4 (fIn x.tn (-1)) ++ (putNum 4 (fIn x.pr (-1)) ++ ([]))))))))) 0, false) relBl = _
    unfold relV
    rw [v0, v1, v2, v3, v4, v5, v6, v7]
    rfl
end Go.Proofs.Ytpoaokkmmoeekaa

/- A relationship's bytes, read: pure. -/
namespace Go.Proofs.Ytpoaokkmmoeekaa
open Go.RowKit
set_option linter.unusedVariables false

theorem getRel_len (bs : List Nat) (h : bs.length ≠ 30) : getRelE bs = 4 := by
  refine endE_left _ (relQ_isw _ _) _ fun hl => h ?_
  have h8 : (relQ8 (.r bs 0, false) relBl).1.left 0 := hl
  have h7 := (fld_left (relQ7 (.r bs 0, false) relBl) (relQ7_isw _ _) 4 (by decide) (-1) 65536 relBl.pr 0).1 h8
  have h6 := (fld_left (relQ6 (.r bs 0, false) relBl) (relQ6_isw _ _) 4 (by decide) (-1) 2048 relBl.tn 4).1 h7
  have h5 := (fld_left (relQ5 (.r bs 0, false) relBl) (relQ5_isw _ _) 4 (by decide) (-1) 2048 relBl.tp 8).1 h6
  have h4 := (fld_left (relQ4 (.r bs 0, false) relBl) (relQ4_isw _ _) 4 (by decide) (-1) 2048 relBl.fn 12).1 h5
  have h3 := (fld_left (relQ3 (.r bs 0, false) relBl) (relQ3_isw _ _) 4 (by decide) (-1) 2048 relBl.fp 16).1 h4
  have h2 := (fld_left (relQ2 (.r bs 0, false) relBl) (relQ2_isw _ _) 2 (by decide) 0 200 relBl.ty 20).1 h3
  have h1 := (fld_left (relQ1 (.r bs 0, false) relBl) (relQ1_isw _ _) 4 (by decide) 0 1024 relBl.to 22).1 h2
  have h0 := (fld_left (relQ0 (.r bs 0, false) relBl) (relQ0_isw _ _) 4 (by decide) 0 1024 relBl.fr 26).1 h1
  exact h0.2
theorem relCut (bs : List Nat) (hb : IsBytes bs) (h : bs.length = 30) : bs = putNum 4 (atN bs 0 4) ++ (putNum 4 (atN bs 4 4) ++ (putNum 2 (atN bs 8 2) ++ (putNum 4 (atN bs 10 4) ++ (putNum 4 (atN bs 14 4) ++ (putNum 4 (atN bs 18 4) ++ (putNum 4 (atN bs 22 4) ++ (putNum 4 (atN bs 26 4) ++ ([])))))))) := by
  have c0 := cut_step bs hb 0 4 (by decide) (by omega)
  have c1 := cut_step bs hb 4 4 (by decide) (by omega)
  have c2 := cut_step bs hb 8 2 (by decide) (by omega)
  have c3 := cut_step bs hb 10 4 (by decide) (by omega)
  have c4 := cut_step bs hb 14 4 (by decide) (by omega)
  have c5 := cut_step bs hb 18 4 (by decide) (by omega)
  have c6 := cut_step bs hb 22 4 (by decide) (by omega)
  have c7 := cut_step bs hb 26 4 (by decide) (by omega)
  have c8 : bs.drop 30 = [] := List.drop_of_length_le (by omega)
  have c := c0
  rw [List.drop_zero] at c
  refine c.trans ?_
  rw [show 0 + 4 = 4 from rfl, c1]
  rw [show 4 + 4 = 8 from rfl, c2]
  rw [show 8 + 2 = 10 from rfl, c3]
  rw [show 10 + 4 = 14 from rfl, c4]
  rw [show 14 + 4 = 18 from rfl, c5]
  rw [show 18 + 4 = 22 from rfl, c6]
  rw [show 22 + 4 = 26 from rfl, c7]
  rw [show 26 + 4 = 30 from rfl, c8]
  rfl
theorem linkI (bs : List Nat) (hb : IsBytes bs) (h : bs.length = 30) : RelI (linkC bs) := by
  have l0 := atN_lt bs hb 0 4 (by omega) (by omega)
  have l1 := atN_lt bs hb 4 4 (by omega) (by omega)
  have l2 := atN_lt bs hb 8 2 (by omega) (by omega)
  have l3 := atN_lt bs hb 10 4 (by omega) (by omega)
  have l4 := atN_lt bs hb 14 4 (by omega) (by omega)
  have l5 := atN_lt bs hb 18 4 (by omega) (by omega)
  have l6 := atN_lt bs hb 22 4 (by omega) (by omega)
  have l7 := atN_lt bs hb 26 4 (by omega) (by omega)
  unfold RelI isI linkC
  simp only
  omega
theorem relB_back (bs : List Nat) (hb : IsBytes bs) (h : bs.length = 30) : refRelB (linkC bs) = bs := by
  rw [refRelB_eq _ (linkI bs hb h)]
  have l0 := atN_lt bs hb 0 4 (by omega) (by omega)
  have e0 : fIn (linkC bs).fr 0 = atN bs 0 4 := fIn_nat _ l0
  have l1 := atN_lt bs hb 4 4 (by omega) (by omega)
  have e1 : fIn (linkC bs).to 0 = atN bs 4 4 := fIn_nat _ l1
  have l2 := atN_lt bs hb 8 2 (by omega) (by omega)
  have e2 : fIn (linkC bs).ty 0 = atN bs 8 2 := fIn_nat _ l2
  have l3 := atN_lt bs hb 10 4 (by omega) (by omega)
  have e3 : fIn (linkC bs).fp (-1) = atN bs 10 4 := fIn_pred _ l3
  have l4 := atN_lt bs hb 14 4 (by omega) (by omega)
  have e4 : fIn (linkC bs).fn (-1) = atN bs 14 4 := fIn_pred _ l4
  have l5 := atN_lt bs hb 18 4 (by omega) (by omega)
  have e5 : fIn (linkC bs).tp (-1) = atN bs 18 4 := fIn_pred _ l5
  have l6 := atN_lt bs hb 22 4 (by omega) (by omega)
  have e6 : fIn (linkC bs).tn (-1) = atN bs 22 4 := fIn_pred _ l6
  have l7 := atN_lt bs hb 26 4 (by omega) (by omega)
  have e7 : fIn (linkC bs).pr (-1) = atN bs 26 4 := fIn_pred _ l7
  rw [e0, e1, e2, e3, e4, e5, e6, e7]
  refine Eq.trans ?_ (relCut bs hb h).symm
  simp only [List.nil_append, List.append_assoc, List.append_nil]
theorem getRel_read (bs : List Nat) (hb : IsBytes bs) (h : bs.length = 30) : getRelE bs = (if refRelOk (linkC bs) = true then 0 else 41) ∧ getRelV bs = linkC bs := by
  have k0 : fOut (lowN 4 (atN bs 0 4)) 0 = (linkC bs).fr := (out_low 4 _ (by decide) 0 (by decide) (atN_pow bs hb 0 4 (by omega))).trans (by show 0 + ((atN bs 0 4 : Nat) : Int) = ((atN bs 0 4 : Nat) : Int); omega)
  have k1 : fOut (lowN 4 (atN bs 4 4)) 0 = (linkC bs).to := (out_low 4 _ (by decide) 0 (by decide) (atN_pow bs hb 4 4 (by omega))).trans (by show 0 + ((atN bs 4 4 : Nat) : Int) = ((atN bs 4 4 : Nat) : Int); omega)
  have k2 : fOut (lowN 2 (atN bs 8 2)) 0 = (linkC bs).ty := (out_low 2 _ (by decide) 0 (by decide) (atN_pow bs hb 8 2 (by omega))).trans (by show 0 + ((atN bs 8 2 : Nat) : Int) = ((atN bs 8 2 : Nat) : Int); omega)
  have k3 : fOut (lowN 4 (atN bs 10 4)) (-1) = (linkC bs).fp := (out_low 4 _ (by decide) (-1) (by decide) (atN_pow bs hb 10 4 (by omega))).trans (by show (-1) + ((atN bs 10 4 : Nat) : Int) = ((atN bs 10 4 : Nat) : Int) - 1; omega)
  have k4 : fOut (lowN 4 (atN bs 14 4)) (-1) = (linkC bs).fn := (out_low 4 _ (by decide) (-1) (by decide) (atN_pow bs hb 14 4 (by omega))).trans (by show (-1) + ((atN bs 14 4 : Nat) : Int) = ((atN bs 14 4 : Nat) : Int) - 1; omega)
  have k5 : fOut (lowN 4 (atN bs 18 4)) (-1) = (linkC bs).tp := (out_low 4 _ (by decide) (-1) (by decide) (atN_pow bs hb 18 4 (by omega))).trans (by show (-1) + ((atN bs 18 4 : Nat) : Int) = ((atN bs 18 4 : Nat) : Int) - 1; omega)
  have k6 : fOut (lowN 4 (atN bs 22 4)) (-1) = (linkC bs).tn := (out_low 4 _ (by decide) (-1) (by decide) (atN_pow bs hb 22 4 (by omega))).trans (by show (-1) + ((atN bs 22 4 : Nat) : Int) = ((atN bs 22 4 : Nat) : Int) - 1; omega)
  have k7 : fOut (lowN 4 (atN bs 26 4)) (-1) = (linkC bs).pr := (out_low 4 _ (by decide) (-1) (by decide) (atN_pow bs hb 26 4 (by omega))).trans (by show (-1) + ((atN bs 26 4 : Nat) : Int) = ((atN bs 26 4 : Nat) : Int) - 1; omega)
  have hc := relCut bs hb h
  have e0 : relQ0 (.r bs 0, false) relBl = (.r (putNum 4 (atN bs 0 4) ++ (putNum 4 (atN bs 4 4) ++ (putNum 2 (atN bs 8 2) ++ (putNum 4 (atN bs 10 4) ++ (putNum 4 (atN bs 14 4) ++ (putNum 4 (atN bs 18 4) ++ (putNum 4 (atN bs 22 4) ++ (putNum 4 (atN bs 26 4) ++ ([]))))))))) 0, false) := by
    show ((.r bs 0, false) : Cs × Bool) = _
    exact congrArg (fun z => ((Cs.r z 0, false) : Cs × Bool)) hc
  have e1 : relQ1 (.r bs 0, false) relBl = (.r (putNum 4 (atN bs 4 4) ++ (putNum 2 (atN bs 8 2) ++ (putNum 4 (atN bs 10 4) ++ (putNum 4 (atN bs 14 4) ++ (putNum 4 (atN bs 18 4) ++ (putNum 4 (atN bs 22 4) ++ (putNum 4 (atN bs 26 4) ++ ([])))))))) 0, (false || !inR 0 1024 (linkC bs).fr)) := by
    unfold relQ1
    rw [e0]
    refine (fld_r 4 (by decide) _ _ _ _ _ _).trans ?_
    rw [k0]
  have v0 : fval (relQ0 (.r bs 0, false) relBl) 4 0 relBl.fr = (linkC bs).fr := by
    rw [e0]
    exact (fval_r 4 (by decide) _ _ _ _ _).trans k0
  have e2 : relQ2 (.r bs 0, false) relBl = (.r (putNum 2 (atN bs 8 2) ++ (putNum 4 (atN bs 10 4) ++ (putNum 4 (atN bs 14 4) ++ (putNum 4 (atN bs 18 4) ++ (putNum 4 (atN bs 22 4) ++ (putNum 4 (atN bs 26 4) ++ ([]))))))) 0, ((false || !inR 0 1024 (linkC bs).fr) || !inR 0 1024 (linkC bs).to)) := by
    unfold relQ2
    rw [e1]
    refine (fld_r 4 (by decide) _ _ _ _ _ _).trans ?_
    rw [k1]
  have v1 : fval (relQ1 (.r bs 0, false) relBl) 4 0 relBl.to = (linkC bs).to := by
    rw [e1]
    exact (fval_r 4 (by decide) _ _ _ _ _).trans k1
  have e3 : relQ3 (.r bs 0, false) relBl = (.r (putNum 4 (atN bs 10 4) ++ (putNum 4 (atN bs 14 4) ++ (putNum 4 (atN bs 18 4) ++ (putNum 4 (atN bs 22 4) ++ (putNum 4 (atN bs 26 4) ++ ([])))))) 0, (((false || !inR 0 1024 (linkC bs).fr) || !inR 0 1024 (linkC bs).to) || !inR 0 200 (linkC bs).ty)) := by
    unfold relQ3
    rw [e2]
    refine (fld_r 2 (by decide) _ _ _ _ _ _).trans ?_
    rw [k2]
  have v2 : fval (relQ2 (.r bs 0, false) relBl) 2 0 relBl.ty = (linkC bs).ty := by
    rw [e2]
    exact (fval_r 2 (by decide) _ _ _ _ _).trans k2
  have e4 : relQ4 (.r bs 0, false) relBl = (.r (putNum 4 (atN bs 14 4) ++ (putNum 4 (atN bs 18 4) ++ (putNum 4 (atN bs 22 4) ++ (putNum 4 (atN bs 26 4) ++ ([]))))) 0, ((((false || !inR 0 1024 (linkC bs).fr) || !inR 0 1024 (linkC bs).to) || !inR 0 200 (linkC bs).ty) || !inR (-1) 2048 (linkC bs).fp)) := by
    unfold relQ4
    rw [e3]
    refine (fld_r 4 (by decide) _ _ _ _ _ _).trans ?_
    rw [k3]
  have v3 : fval (relQ3 (.r bs 0, false) relBl) 4 (-1) relBl.fp = (linkC bs).fp := by
    rw [e3]
    exact (fval_r 4 (by decide) _ _ _ _ _).trans k3
  have e5 : relQ5 (.r bs 0, false) relBl = (.r (putNum 4 (atN bs 18 4) ++ (putNum 4 (atN bs 22 4) ++ (putNum 4 (atN bs 26 4) ++ ([])))) 0, (((((false || !inR 0 1024 (linkC bs).fr) || !inR 0 1024 (linkC bs).to) || !inR 0 200 (linkC bs).ty) || !inR (-1) 2048 (linkC bs).fp) || !inR (-1) 2048 (linkC bs).fn)) := by
    unfold relQ5
    rw [e4]
    refine (fld_r 4 (by decide) _ _ _ _ _ _).trans ?_
    rw [k4]
  have v4 : fval (relQ4 (.r bs 0, false) relBl) 4 (-1) relBl.fn = (linkC bs).fn := by
    rw [e4]
    exact (fval_r 4 (by decide) _ _ _ _ _).trans k4
  have e6 : relQ6 (.r bs 0, false) relBl = (.r (putNum 4 (atN bs 22 4) ++ (putNum 4 (atN bs 26 4) ++ ([]))) 0, ((((((false || !inR 0 1024 (linkC bs).fr) || !inR 0 1024 (linkC bs).to) || !inR 0 200 (linkC bs).ty) || !inR (-1) 2048 (linkC bs).fp) || !inR (-1) 2048 (linkC bs).fn) || !inR (-1) 2048 (linkC bs).tp)) := by
    unfold relQ6
    rw [e5]
    refine (fld_r 4 (by decide) _ _ _ _ _ _).trans ?_
    rw [k5]
  have v5 : fval (relQ5 (.r bs 0, false) relBl) 4 (-1) relBl.tp = (linkC bs).tp := by
    rw [e5]
    exact (fval_r 4 (by decide) _ _ _ _ _).trans k5
  have e7 : relQ7 (.r bs 0, false) relBl = (.r (putNum 4 (atN bs 26 4) ++ ([])) 0, (((((((false || !inR 0 1024 (linkC bs).fr) || !inR 0 1024 (linkC bs).to) || !inR 0 200 (linkC bs).ty) || !inR (-1) 2048 (linkC bs).fp) || !inR (-1) 2048 (linkC bs).fn) || !inR (-1) 2048 (linkC bs).tp) || !inR (-1) 2048 (linkC bs).tn)) := by
    unfold relQ7
    rw [e6]
    refine (fld_r 4 (by decide) _ _ _ _ _ _).trans ?_
    rw [k6]
  have v6 : fval (relQ6 (.r bs 0, false) relBl) 4 (-1) relBl.tn = (linkC bs).tn := by
    rw [e6]
    exact (fval_r 4 (by decide) _ _ _ _ _).trans k6
  have e8 : relQ8 (.r bs 0, false) relBl = (.r ([]) 0, ((((((((false || !inR 0 1024 (linkC bs).fr) || !inR 0 1024 (linkC bs).to) || !inR 0 200 (linkC bs).ty) || !inR (-1) 2048 (linkC bs).fp) || !inR (-1) 2048 (linkC bs).fn) || !inR (-1) 2048 (linkC bs).tp) || !inR (-1) 2048 (linkC bs).tn) || !inR (-1) 65536 (linkC bs).pr)) := by
    unfold relQ8
    rw [e7]
    refine (fld_r 4 (by decide) _ _ _ _ _ _).trans ?_
    rw [k7]
  have v7 : fval (relQ7 (.r bs 0, false) relBl) 4 (-1) relBl.pr = (linkC bs).pr := by
    rw [e7]
    exact (fval_r 4 (by decide) _ _ _ _ _).trans k7
  constructor
  · show (relQ8 (.r bs 0, false) relBl).1.endE (relQ8 (.r bs 0, false) relBl).2 = _
    rw [e8]
    unfold refRelOk linkR
    cases inR 0 1024 (linkC bs).fr <;> cases inR 0 1024 (linkC bs).to <;> cases inR 0 200 (linkC bs).ty <;> cases inR (-1) 2048 (linkC bs).fp <;> cases inR (-1) 2048 (linkC bs).fn <;> cases inR (-1) 2048 (linkC bs).tp <;> cases inR (-1) 2048 (linkC bs).tn <;> cases inR (-1) 65536 (linkC bs).pr <;> rfl
  · show relV (.r bs 0, false) relBl = _
    unfold relV
    rw [v0, v1, v2, v3, v4, v5, v6, v7]
    rfl
end Go.Proofs.Ytpoaokkmmoeekaa

/- A relationship's first thirty bytes, whatever stands behind them: pure. Written by mkrdprel.py. -/
namespace Go.Proofs.Ytpoaokkmmoeekaa
open Go.RowKit
set_option linter.unusedVariables false

theorem relQ_put (x : RelC) (hx : RelI x) : relQ (.w [], false) x = (.w (refRelB x), !refRelOk x) := by
  refine (putRelQ_eq x hx).trans ?_
  rw [refRelB_eq x hx]
  unfold refRelOk linkR
  congr 1
  cases inR 0 1024 x.fr <;> cases inR 0 1024 x.to <;> cases inR 0 200 x.ty <;> cases inR (-1) 2048 x.fp <;> cases inR (-1) 2048 x.fn <;> cases inR (-1) 2048 x.tp <;> cases inR (-1) 2048 x.tn <;> cases inR (-1) 65536 x.pr <;> rfl
theorem refRelB_len (x : RelC) (hx : RelI x) : (refRelB x).length = 30 := by
  have e4 : ∀ n, (putNum 4 n).length = 4 := fun n => by rw [putNum_yes (width := 4) rfl, enc_length]; rfl
  have e2 : ∀ n, (putNum 2 n).length = 2 := fun n => by rw [putNum_yes (width := 2) rfl, enc_length]; rfl
  rw [refRelB_eq x hx]
  simp only [List.length_append, List.length_nil, e4, e2]
theorem relQ_backT (x : RelC) (hx : RelI x) (hok : refRelOk x = true) (T : List Nat) : relQ (.r (refRelB x ++ T) 0, false) relBl = (.r T 0, false) ∧ relV (.r (refRelB x ++ T) 0, false) relBl = ⟨true, x.fr, x.to, x.fp, x.tp, x.fn, x.tn, x.ty, x.pr⟩ := by
  have hB : refRelB x ++ T = putNum 4 (fIn x.fr 0) ++ (putNum 4 (fIn x.to 0) ++ (putNum 2 (fIn x.ty 0) ++ (putNum 4 (fIn x.fp (-1)) ++ (putNum 4 (fIn x.fn (-1)) ++ (putNum 4 (fIn x.tp (-1)) ++ (putNum 4 (fIn x.tn (-1)) ++ (putNum 4 (fIn x.pr (-1)) ++ (T)))))))) := by rw [refRelB_eq x hx]; simp only [List.nil_append, List.append_assoc]
  rw [hB]
  unfold refRelOk linkR at hok
  simp only [Bool.and_eq_true] at hok
  obtain ⟨⟨⟨⟨⟨⟨⟨o_fr, o_to⟩, o_fp⟩, o_fn⟩, o_tp⟩, o_tn⟩, o_ty⟩, o_pr⟩ := hok
  have k0 : fOut (lowN 4 (fIn x.fr 0)) 0 = x.fr := back 4 (by omega) 0 1024 x.fr o_fr (by omega) (by decide) (by decide)
  have k1 : fOut (lowN 4 (fIn x.to 0)) 0 = x.to := back 4 (by omega) 0 1024 x.to o_to (by omega) (by decide) (by decide)
  have k2 : fOut (lowN 2 (fIn x.ty 0)) 0 = x.ty := back 2 (by omega) 0 200 x.ty o_ty (by omega) (by decide) (by decide)
  have k3 : fOut (lowN 4 (fIn x.fp (-1))) (-1) = x.fp := back 4 (by omega) (-1) 2048 x.fp o_fp (by omega) (by decide) (by decide)
  have k4 : fOut (lowN 4 (fIn x.fn (-1))) (-1) = x.fn := back 4 (by omega) (-1) 2048 x.fn o_fn (by omega) (by decide) (by decide)
  have k5 : fOut (lowN 4 (fIn x.tp (-1))) (-1) = x.tp := back 4 (by omega) (-1) 2048 x.tp o_tp (by omega) (by decide) (by decide)
  have k6 : fOut (lowN 4 (fIn x.tn (-1))) (-1) = x.tn := back 4 (by omega) (-1) 2048 x.tn o_tn (by omega) (by decide) (by decide)
  have k7 : fOut (lowN 4 (fIn x.pr (-1))) (-1) = x.pr := back 4 (by omega) (-1) 65536 x.pr o_pr (by omega) (by decide) (by decide)
  have e0 : relQ0 (.r (putNum 4 (fIn x.fr 0) ++ (putNum 4 (fIn x.to 0) ++ (putNum 2 (fIn x.ty 0) ++ (putNum 4 (fIn x.fp (-1)) ++ (putNum 4 (fIn x.fn (-1)) ++ (putNum 4 (fIn x.tp (-1)) ++ (putNum 4 (fIn x.tn (-1)) ++ (putNum 4 (fIn x.pr (-1)) ++ (T))))))))) 0, false) relBl = (.r (putNum 4 (fIn x.fr 0) ++ (putNum 4 (fIn x.to 0) ++ (putNum 2 (fIn x.ty 0) ++ (putNum 4 (fIn x.fp (-1)) ++ (putNum 4 (fIn x.fn (-1)) ++ (putNum 4 (fIn x.tp (-1)) ++ (putNum 4 (fIn x.tn (-1)) ++ (putNum 4 (fIn x.pr (-1)) ++ (T))))))))) 0, false) := rfl
  have e1 : relQ1 (.r (putNum 4 (fIn x.fr 0) ++ (putNum 4 (fIn x.to 0) ++ (putNum 2 (fIn x.ty 0) ++ (putNum 4 (fIn x.fp (-1)) ++ (putNum 4 (fIn x.fn (-1)) ++ (putNum 4 (fIn x.tp (-1)) ++ (putNum 4 (fIn x.tn (-1)) ++ (putNum 4 (fIn x.pr (-1)) ++ (T))))))))) 0, false) relBl = (.r (putNum 4 (fIn x.to 0) ++ (putNum 2 (fIn x.ty 0) ++ (putNum 4 (fIn x.fp (-1)) ++ (putNum 4 (fIn x.fn (-1)) ++ (putNum 4 (fIn x.tp (-1)) ++ (putNum 4 (fIn x.tn (-1)) ++ (putNum 4 (fIn x.pr (-1)) ++ (T)))))))) 0, false) := by
    unfold relQ1
    rw [e0]
    refine (fld_r 4 (by omega) _ _ _ _ _ _).trans ?_
    rw [k0, o_fr]
    rfl
  have v0 : fval (relQ0 (.r (putNum 4 (fIn x.fr 0) ++ (putNum 4 (fIn x.to 0) ++ (putNum 2 (fIn x.ty 0) ++ (putNum 4 (fIn x.fp (-1)) ++ (putNum 4 (fIn x.fn (-1)) ++ (putNum 4 (fIn x.tp (-1)) ++ (putNum 4 (fIn x.tn (-1)) ++ (putNum 4 (fIn x.pr (-1)) ++ (T))))))))) 0, false) relBl) 4 0 relBl.fr = x.fr := by
    rw [e0]
    exact (fval_r 4 (by omega) _ _ _ _ _).trans k0
  have e2 : relQ2 (.r (putNum 4 (fIn x.fr 0) ++ (putNum 4 (fIn x.to 0) ++ (putNum 2 (fIn x.ty 0) ++ (putNum 4 (fIn x.fp (-1)) ++ (putNum 4 (fIn x.fn (-1)) ++ (putNum 4 (fIn x.tp (-1)) ++ (putNum 4 (fIn x.tn (-1)) ++ (putNum 4 (fIn x.pr (-1)) ++ (T))))))))) 0, false) relBl = (.r (putNum 2 (fIn x.ty 0) ++ (putNum 4 (fIn x.fp (-1)) ++ (putNum 4 (fIn x.fn (-1)) ++ (putNum 4 (fIn x.tp (-1)) ++ (putNum 4 (fIn x.tn (-1)) ++ (putNum 4 (fIn x.pr (-1)) ++ (T))))))) 0, false) := by
    unfold relQ2
    rw [e1]
    refine (fld_r 4 (by omega) _ _ _ _ _ _).trans ?_
    rw [k1, o_to]
    rfl
  have v1 : fval (relQ1 (.r (putNum 4 (fIn x.fr 0) ++ (putNum 4 (fIn x.to 0) ++ (putNum 2 (fIn x.ty 0) ++ (putNum 4 (fIn x.fp (-1)) ++ (putNum 4 (fIn x.fn (-1)) ++ (putNum 4 (fIn x.tp (-1)) ++ (putNum 4 (fIn x.tn (-1)) ++ (putNum 4 (fIn x.pr (-1)) ++ (T))))))))) 0, false) relBl) 4 0 relBl.to = x.to := by
    rw [e1]
    exact (fval_r 4 (by omega) _ _ _ _ _).trans k1
  have e3 : relQ3 (.r (putNum 4 (fIn x.fr 0) ++ (putNum 4 (fIn x.to 0) ++ (putNum 2 (fIn x.ty 0) ++ (putNum 4 (fIn x.fp (-1)) ++ (putNum 4 (fIn x.fn (-1)) ++ (putNum 4 (fIn x.tp (-1)) ++ (putNum 4 (fIn x.tn (-1)) ++ (putNum 4 (fIn x.pr (-1)) ++ (T))))))))) 0, false) relBl = (.r (putNum 4 (fIn x.fp (-1)) ++ (putNum 4 (fIn x.fn (-1)) ++ (putNum 4 (fIn x.tp (-1)) ++ (putNum 4 (fIn x.tn (-1)) ++ (putNum 4 (fIn x.pr (-1)) ++ (T)))))) 0, false) := by
    unfold relQ3
    rw [e2]
    refine (fld_r 2 (by omega) _ _ _ _ _ _).trans ?_
    rw [k2, o_ty]
    rfl
  have v2 : fval (relQ2 (.r (putNum 4 (fIn x.fr 0) ++ (putNum 4 (fIn x.to 0) ++ (putNum 2 (fIn x.ty 0) ++ (putNum 4 (fIn x.fp (-1)) ++ (putNum 4 (fIn x.fn (-1)) ++ (putNum 4 (fIn x.tp (-1)) ++ (putNum 4 (fIn x.tn (-1)) ++ (putNum 4 (fIn x.pr (-1)) ++ (T))))))))) 0, false) relBl) 2 0 relBl.ty = x.ty := by
    rw [e2]
    exact (fval_r 2 (by omega) _ _ _ _ _).trans k2
  have e4 : relQ4 (.r (putNum 4 (fIn x.fr 0) ++ (putNum 4 (fIn x.to 0) ++ (putNum 2 (fIn x.ty 0) ++ (putNum 4 (fIn x.fp (-1)) ++ (putNum 4 (fIn x.fn (-1)) ++ (putNum 4 (fIn x.tp (-1)) ++ (putNum 4 (fIn x.tn (-1)) ++ (putNum 4 (fIn x.pr (-1)) ++ (T))))))))) 0, false) relBl = (.r (putNum 4 (fIn x.fn (-1)) ++ (putNum 4 (fIn x.tp (-1)) ++ (putNum 4 (fIn x.tn (-1)) ++ (putNum 4 (fIn x.pr (-1)) ++ (T))))) 0, false) := by
    unfold relQ4
    rw [e3]
    refine (fld_r 4 (by omega) _ _ _ _ _ _).trans ?_
    rw [k3, o_fp]
    rfl
  have v3 : fval (relQ3 (.r (putNum 4 (fIn x.fr 0) ++ (putNum 4 (fIn x.to 0) ++ (putNum 2 (fIn x.ty 0) ++ (putNum 4 (fIn x.fp (-1)) ++ (putNum 4 (fIn x.fn (-1)) ++ (putNum 4 (fIn x.tp (-1)) ++ (putNum 4 (fIn x.tn (-1)) ++ (putNum 4 (fIn x.pr (-1)) ++ (T))))))))) 0, false) relBl) 4 (-1) relBl.fp = x.fp := by
    rw [e3]
    exact (fval_r 4 (by omega) _ _ _ _ _).trans k3
  have e5 : relQ5 (.r (putNum 4 (fIn x.fr 0) ++ (putNum 4 (fIn x.to 0) ++ (putNum 2 (fIn x.ty 0) ++ (putNum 4 (fIn x.fp (-1)) ++ (putNum 4 (fIn x.fn (-1)) ++ (putNum 4 (fIn x.tp (-1)) ++ (putNum 4 (fIn x.tn (-1)) ++ (putNum 4 (fIn x.pr (-1)) ++ (T))))))))) 0, false) relBl = (.r (putNum 4 (fIn x.tp (-1)) ++ (putNum 4 (fIn x.tn (-1)) ++ (putNum 4 (fIn x.pr (-1)) ++ (T)))) 0, false) := by
    unfold relQ5
    rw [e4]
    refine (fld_r 4 (by omega) _ _ _ _ _ _).trans ?_
    rw [k4, o_fn]
    rfl
  have v4 : fval (relQ4 (.r (putNum 4 (fIn x.fr 0) ++ (putNum 4 (fIn x.to 0) ++ (putNum 2 (fIn x.ty 0) ++ (putNum 4 (fIn x.fp (-1)) ++ (putNum 4 (fIn x.fn (-1)) ++ (putNum 4 (fIn x.tp (-1)) ++ (putNum 4 (fIn x.tn (-1)) ++ (putNum 4 (fIn x.pr (-1)) ++ (T))))))))) 0, false) relBl) 4 (-1) relBl.fn = x.fn := by
    rw [e4]
    exact (fval_r 4 (by omega) _ _ _ _ _).trans k4
  have e6 : relQ6 (.r (putNum 4 (fIn x.fr 0) ++ (putNum 4 (fIn x.to 0) ++ (putNum 2 (fIn x.ty 0) ++ (putNum 4 (fIn x.fp (-1)) ++ (putNum 4 (fIn x.fn (-1)) ++ (putNum 4 (fIn x.tp (-1)) ++ (putNum 4 (fIn x.tn (-1)) ++ (putNum 4 (fIn x.pr (-1)) ++ (T))))))))) 0, false) relBl = (.r (putNum 4 (fIn x.tn (-1)) ++ (putNum 4 (fIn x.pr (-1)) ++ (T))) 0, false) := by
    unfold relQ6
    rw [e5]
    refine (fld_r 4 (by omega) _ _ _ _ _ _).trans ?_
    rw [k5, o_tp]
    rfl
  have v5 : fval (relQ5 (.r (putNum 4 (fIn x.fr 0) ++ (putNum 4 (fIn x.to 0) ++ (putNum 2 (fIn x.ty 0) ++ (putNum 4 (fIn x.fp (-1)) ++ (putNum 4 (fIn x.fn (-1)) ++ (putNum 4 (fIn x.tp (-1)) ++ (putNum 4 (fIn x.tn (-1)) ++ (putNum 4 (fIn x.pr (-1)) ++ (T))))))))) 0, false) relBl) 4 (-1) relBl.tp = x.tp := by
    rw [e5]
    exact (fval_r 4 (by omega) _ _ _ _ _).trans k5
  have e7 : relQ7 (.r (putNum 4 (fIn x.fr 0) ++ (putNum 4 (fIn x.to 0) ++ (putNum 2 (fIn x.ty 0) ++ (putNum 4 (fIn x.fp (-1)) ++ (putNum 4 (fIn x.fn (-1)) ++ (putNum 4 (fIn x.tp (-1)) ++ (putNum 4 (fIn x.tn (-1)) ++ (putNum 4 (fIn x.pr (-1)) ++ (T))))))))) 0, false) relBl = (.r (putNum 4 (fIn x.pr (-1)) ++ (T)) 0, false) := by
    unfold relQ7
    rw [e6]
    refine (fld_r 4 (by omega) _ _ _ _ _ _).trans ?_
    rw [k6, o_tn]
    rfl
  have v6 : fval (relQ6 (.r (putNum 4 (fIn x.fr 0) ++ (putNum 4 (fIn x.to 0) ++ (putNum 2 (fIn x.ty 0) ++ (putNum 4 (fIn x.fp (-1)) ++ (putNum 4 (fIn x.fn (-1)) ++ (putNum 4 (fIn x.tp (-1)) ++ (putNum 4 (fIn x.tn (-1)) ++ (putNum 4 (fIn x.pr (-1)) ++ (T))))))))) 0, false) relBl) 4 (-1) relBl.tn = x.tn := by
    rw [e6]
    exact (fval_r 4 (by omega) _ _ _ _ _).trans k6
  have e8 : relQ8 (.r (putNum 4 (fIn x.fr 0) ++ (putNum 4 (fIn x.to 0) ++ (putNum 2 (fIn x.ty 0) ++ (putNum 4 (fIn x.fp (-1)) ++ (putNum 4 (fIn x.fn (-1)) ++ (putNum 4 (fIn x.tp (-1)) ++ (putNum 4 (fIn x.tn (-1)) ++ (putNum 4 (fIn x.pr (-1)) ++ (T))))))))) 0, false) relBl = (.r (T) 0, false) := by
    unfold relQ8
    rw [e7]
    refine (fld_r 4 (by omega) _ _ _ _ _ _).trans ?_
    rw [k7, o_pr]
    rfl
  have v7 : fval (relQ7 (.r (putNum 4 (fIn x.fr 0) ++ (putNum 4 (fIn x.to 0) ++ (putNum 2 (fIn x.ty 0) ++ (putNum 4 (fIn x.fp (-1)) ++ (putNum 4 (fIn x.fn (-1)) ++ (putNum 4 (fIn x.tp (-1)) ++ (putNum 4 (fIn x.tn (-1)) ++ (putNum 4 (fIn x.pr (-1)) ++ (T))))))))) 0, false) relBl) 4 (-1) relBl.pr = x.pr := by
    rw [e7]
    exact (fval_r 4 (by omega) _ _ _ _ _).trans k7
  constructor
  · exact e8
  · unfold relV
    rw [v0, v1, v2, v3, v4, v5, v6, v7]
    rfl
theorem relCutT (bs : List Nat) (hb : IsBytes bs) (h : 30 ≤ bs.length) : bs = putNum 4 (atN bs 0 4) ++ (putNum 4 (atN bs 4 4) ++ (putNum 2 (atN bs 8 2) ++ (putNum 4 (atN bs 10 4) ++ (putNum 4 (atN bs 14 4) ++ (putNum 4 (atN bs 18 4) ++ (putNum 4 (atN bs 22 4) ++ (putNum 4 (atN bs 26 4) ++ (bs.drop 30)))))))) := by
  have c0 := cut_step bs hb 0 4 (by decide) (by omega)
  have c1 := cut_step bs hb 4 4 (by decide) (by omega)
  have c2 := cut_step bs hb 8 2 (by decide) (by omega)
  have c3 := cut_step bs hb 10 4 (by decide) (by omega)
  have c4 := cut_step bs hb 14 4 (by decide) (by omega)
  have c5 := cut_step bs hb 18 4 (by decide) (by omega)
  have c6 := cut_step bs hb 22 4 (by decide) (by omega)
  have c7 := cut_step bs hb 26 4 (by decide) (by omega)
  have c := c0
  rw [List.drop_zero] at c
  refine c.trans ?_
  rw [show 0 + 4 = 4 from rfl, c1]
  rw [show 4 + 4 = 8 from rfl, c2]
  rw [show 8 + 2 = 10 from rfl, c3]
  rw [show 10 + 4 = 14 from rfl, c4]
  rw [show 14 + 4 = 18 from rfl, c5]
  rw [show 18 + 4 = 22 from rfl, c6]
  rw [show 22 + 4 = 26 from rfl, c7]
  rw [show 26 + 4 = 30 from rfl]
  rfl
theorem linkIT (bs : List Nat) (hb : IsBytes bs) (h : 30 ≤ bs.length) : RelI (linkC bs) := by
  have l0 := atN_lt bs hb 0 4 (by omega) (by omega)
  have l1 := atN_lt bs hb 4 4 (by omega) (by omega)
  have l2 := atN_lt bs hb 8 2 (by omega) (by omega)
  have l3 := atN_lt bs hb 10 4 (by omega) (by omega)
  have l4 := atN_lt bs hb 14 4 (by omega) (by omega)
  have l5 := atN_lt bs hb 18 4 (by omega) (by omega)
  have l6 := atN_lt bs hb 22 4 (by omega) (by omega)
  have l7 := atN_lt bs hb 26 4 (by omega) (by omega)
  unfold RelI isI linkC
  simp only
  omega
theorem relB_backT (bs : List Nat) (hb : IsBytes bs) (h : 30 ≤ bs.length) : refRelB (linkC bs) ++ bs.drop 30 = bs := by
  rw [refRelB_eq _ (linkIT bs hb h)]
  have l0 := atN_lt bs hb 0 4 (by omega) (by omega)
  have e0 : fIn (linkC bs).fr 0 = atN bs 0 4 := fIn_nat _ l0
  have l1 := atN_lt bs hb 4 4 (by omega) (by omega)
  have e1 : fIn (linkC bs).to 0 = atN bs 4 4 := fIn_nat _ l1
  have l2 := atN_lt bs hb 8 2 (by omega) (by omega)
  have e2 : fIn (linkC bs).ty 0 = atN bs 8 2 := fIn_nat _ l2
  have l3 := atN_lt bs hb 10 4 (by omega) (by omega)
  have e3 : fIn (linkC bs).fp (-1) = atN bs 10 4 := fIn_pred _ l3
  have l4 := atN_lt bs hb 14 4 (by omega) (by omega)
  have e4 : fIn (linkC bs).fn (-1) = atN bs 14 4 := fIn_pred _ l4
  have l5 := atN_lt bs hb 18 4 (by omega) (by omega)
  have e5 : fIn (linkC bs).tp (-1) = atN bs 18 4 := fIn_pred _ l5
  have l6 := atN_lt bs hb 22 4 (by omega) (by omega)
  have e6 : fIn (linkC bs).tn (-1) = atN bs 22 4 := fIn_pred _ l6
  have l7 := atN_lt bs hb 26 4 (by omega) (by omega)
  have e7 : fIn (linkC bs).pr (-1) = atN bs 26 4 := fIn_pred _ l7
  rw [e0, e1, e2, e3, e4, e5, e6, e7]
  refine Eq.trans ?_ (relCutT bs hb h).symm
  simp only [List.nil_append, List.append_assoc]
theorem relQ_readT (bs : List Nat) (hb : IsBytes bs) (h : 30 ≤ bs.length) : relQ (.r bs 0, false) relBl = (.r (bs.drop 30) 0, !refRelOk (linkC bs)) ∧ relV (.r bs 0, false) relBl = linkC bs := by
  have k0 : fOut (lowN 4 (atN bs 0 4)) 0 = (linkC bs).fr := (out_low 4 _ (by decide) 0 (by decide) (atN_pow bs hb 0 4 (by omega))).trans (by show 0 + ((atN bs 0 4 : Nat) : Int) = ((atN bs 0 4 : Nat) : Int); omega)
  have k1 : fOut (lowN 4 (atN bs 4 4)) 0 = (linkC bs).to := (out_low 4 _ (by decide) 0 (by decide) (atN_pow bs hb 4 4 (by omega))).trans (by show 0 + ((atN bs 4 4 : Nat) : Int) = ((atN bs 4 4 : Nat) : Int); omega)
  have k2 : fOut (lowN 2 (atN bs 8 2)) 0 = (linkC bs).ty := (out_low 2 _ (by decide) 0 (by decide) (atN_pow bs hb 8 2 (by omega))).trans (by show 0 + ((atN bs 8 2 : Nat) : Int) = ((atN bs 8 2 : Nat) : Int); omega)
  have k3 : fOut (lowN 4 (atN bs 10 4)) (-1) = (linkC bs).fp := (out_low 4 _ (by decide) (-1) (by decide) (atN_pow bs hb 10 4 (by omega))).trans (by show (-1) + ((atN bs 10 4 : Nat) : Int) = ((atN bs 10 4 : Nat) : Int) - 1; omega)
  have k4 : fOut (lowN 4 (atN bs 14 4)) (-1) = (linkC bs).fn := (out_low 4 _ (by decide) (-1) (by decide) (atN_pow bs hb 14 4 (by omega))).trans (by show (-1) + ((atN bs 14 4 : Nat) : Int) = ((atN bs 14 4 : Nat) : Int) - 1; omega)
  have k5 : fOut (lowN 4 (atN bs 18 4)) (-1) = (linkC bs).tp := (out_low 4 _ (by decide) (-1) (by decide) (atN_pow bs hb 18 4 (by omega))).trans (by show (-1) + ((atN bs 18 4 : Nat) : Int) = ((atN bs 18 4 : Nat) : Int) - 1; omega)
  have k6 : fOut (lowN 4 (atN bs 22 4)) (-1) = (linkC bs).tn := (out_low 4 _ (by decide) (-1) (by decide) (atN_pow bs hb 22 4 (by omega))).trans (by show (-1) + ((atN bs 22 4 : Nat) : Int) = ((atN bs 22 4 : Nat) : Int) - 1; omega)
  have k7 : fOut (lowN 4 (atN bs 26 4)) (-1) = (linkC bs).pr := (out_low 4 _ (by decide) (-1) (by decide) (atN_pow bs hb 26 4 (by omega))).trans (by show (-1) + ((atN bs 26 4 : Nat) : Int) = ((atN bs 26 4 : Nat) : Int) - 1; omega)
  have hc := relCutT bs hb h
  have e0 : relQ0 (.r bs 0, false) relBl = (.r (putNum 4 (atN bs 0 4) ++ (putNum 4 (atN bs 4 4) ++ (putNum 2 (atN bs 8 2) ++ (putNum 4 (atN bs 10 4) ++ (putNum 4 (atN bs 14 4) ++ (putNum 4 (atN bs 18 4) ++ (putNum 4 (atN bs 22 4) ++ (putNum 4 (atN bs 26 4) ++ (bs.drop 30))))))))) 0, false) := by
    show ((.r bs 0, false) : Cs × Bool) = _
    exact congrArg (fun z => ((Cs.r z 0, false) : Cs × Bool)) hc
  have e1 : relQ1 (.r bs 0, false) relBl = (.r (putNum 4 (atN bs 4 4) ++ (putNum 2 (atN bs 8 2) ++ (putNum 4 (atN bs 10 4) ++ (putNum 4 (atN bs 14 4) ++ (putNum 4 (atN bs 18 4) ++ (putNum 4 (atN bs 22 4) ++ (putNum 4 (atN bs 26 4) ++ (bs.drop 30)))))))) 0, (false || !inR 0 1024 (linkC bs).fr)) := by
    unfold relQ1
    rw [e0]
    refine (fld_r 4 (by decide) _ _ _ _ _ _).trans ?_
    rw [k0]
  have v0 : fval (relQ0 (.r bs 0, false) relBl) 4 0 relBl.fr = (linkC bs).fr := by
    rw [e0]
    exact (fval_r 4 (by decide) _ _ _ _ _).trans k0
  have e2 : relQ2 (.r bs 0, false) relBl = (.r (putNum 2 (atN bs 8 2) ++ (putNum 4 (atN bs 10 4) ++ (putNum 4 (atN bs 14 4) ++ (putNum 4 (atN bs 18 4) ++ (putNum 4 (atN bs 22 4) ++ (putNum 4 (atN bs 26 4) ++ (bs.drop 30))))))) 0, ((false || !inR 0 1024 (linkC bs).fr) || !inR 0 1024 (linkC bs).to)) := by
    unfold relQ2
    rw [e1]
    refine (fld_r 4 (by decide) _ _ _ _ _ _).trans ?_
    rw [k1]
  have v1 : fval (relQ1 (.r bs 0, false) relBl) 4 0 relBl.to = (linkC bs).to := by
    rw [e1]
    exact (fval_r 4 (by decide) _ _ _ _ _).trans k1
  have e3 : relQ3 (.r bs 0, false) relBl = (.r (putNum 4 (atN bs 10 4) ++ (putNum 4 (atN bs 14 4) ++ (putNum 4 (atN bs 18 4) ++ (putNum 4 (atN bs 22 4) ++ (putNum 4 (atN bs 26 4) ++ (bs.drop 30)))))) 0, (((false || !inR 0 1024 (linkC bs).fr) || !inR 0 1024 (linkC bs).to) || !inR 0 200 (linkC bs).ty)) := by
    unfold relQ3
    rw [e2]
    refine (fld_r 2 (by decide) _ _ _ _ _ _).trans ?_
    rw [k2]
  have v2 : fval (relQ2 (.r bs 0, false) relBl) 2 0 relBl.ty = (linkC bs).ty := by
    rw [e2]
    exact (fval_r 2 (by decide) _ _ _ _ _).trans k2
  have e4 : relQ4 (.r bs 0, false) relBl = (.r (putNum 4 (atN bs 14 4) ++ (putNum 4 (atN bs 18 4) ++ (putNum 4 (atN bs 22 4) ++ (putNum 4 (atN bs 26 4) ++ (bs.drop 30))))) 0, ((((false || !inR 0 1024 (linkC bs).fr) || !inR 0 1024 (linkC bs).to) || !inR 0 200 (linkC bs).ty) || !inR (-1) 2048 (linkC bs).fp)) := by
    unfold relQ4
    rw [e3]
    refine (fld_r 4 (by decide) _ _ _ _ _ _).trans ?_
    rw [k3]
  have v3 : fval (relQ3 (.r bs 0, false) relBl) 4 (-1) relBl.fp = (linkC bs).fp := by
    rw [e3]
    exact (fval_r 4 (by decide) _ _ _ _ _).trans k3
  have e5 : relQ5 (.r bs 0, false) relBl = (.r (putNum 4 (atN bs 18 4) ++ (putNum 4 (atN bs 22 4) ++ (putNum 4 (atN bs 26 4) ++ (bs.drop 30)))) 0, (((((false || !inR 0 1024 (linkC bs).fr) || !inR 0 1024 (linkC bs).to) || !inR 0 200 (linkC bs).ty) || !inR (-1) 2048 (linkC bs).fp) || !inR (-1) 2048 (linkC bs).fn)) := by
    unfold relQ5
    rw [e4]
    refine (fld_r 4 (by decide) _ _ _ _ _ _).trans ?_
    rw [k4]
  have v4 : fval (relQ4 (.r bs 0, false) relBl) 4 (-1) relBl.fn = (linkC bs).fn := by
    rw [e4]
    exact (fval_r 4 (by decide) _ _ _ _ _).trans k4
  have e6 : relQ6 (.r bs 0, false) relBl = (.r (putNum 4 (atN bs 22 4) ++ (putNum 4 (atN bs 26 4) ++ (bs.drop 30))) 0, ((((((false || !inR 0 1024 (linkC bs).fr) || !inR 0 1024 (linkC bs).to) || !inR 0 200 (linkC bs).ty) || !inR (-1) 2048 (linkC bs).fp) || !inR (-1) 2048 (linkC bs).fn) || !inR (-1) 2048 (linkC bs).tp)) := by
    unfold relQ6
    rw [e5]
    refine (fld_r 4 (by decide) _ _ _ _ _ _).trans ?_
    rw [k5]
  have v5 : fval (relQ5 (.r bs 0, false) relBl) 4 (-1) relBl.tp = (linkC bs).tp := by
    rw [e5]
    exact (fval_r 4 (by decide) _ _ _ _ _).trans k5
  have e7 : relQ7 (.r bs 0, false) relBl = (.r (putNum 4 (atN bs 26 4) ++ (bs.drop 30)) 0, (((((((false || !inR 0 1024 (linkC bs).fr) || !inR 0 1024 (linkC bs).to) || !inR 0 200 (linkC bs).ty) || !inR (-1) 2048 (linkC bs).fp) || !inR (-1) 2048 (linkC bs).fn) || !inR (-1) 2048 (linkC bs).tp) || !inR (-1) 2048 (linkC bs).tn)) := by
    unfold relQ7
    rw [e6]
    refine (fld_r 4 (by decide) _ _ _ _ _ _).trans ?_
    rw [k6]
  have v6 : fval (relQ6 (.r bs 0, false) relBl) 4 (-1) relBl.tn = (linkC bs).tn := by
    rw [e6]
    exact (fval_r 4 (by decide) _ _ _ _ _).trans k6
  have e8 : relQ8 (.r bs 0, false) relBl = (.r (bs.drop 30) 0, ((((((((false || !inR 0 1024 (linkC bs).fr) || !inR 0 1024 (linkC bs).to) || !inR 0 200 (linkC bs).ty) || !inR (-1) 2048 (linkC bs).fp) || !inR (-1) 2048 (linkC bs).fn) || !inR (-1) 2048 (linkC bs).tp) || !inR (-1) 2048 (linkC bs).tn) || !inR (-1) 65536 (linkC bs).pr)) := by
    unfold relQ8
    rw [e7]
    refine (fld_r 4 (by decide) _ _ _ _ _ _).trans ?_
    rw [k7]
  have v7 : fval (relQ7 (.r bs 0, false) relBl) 4 (-1) relBl.pr = (linkC bs).pr := by
    rw [e7]
    exact (fval_r 4 (by decide) _ _ _ _ _).trans k7
  have hw : ((((((((false || !inR 0 1024 (linkC bs).fr) || !inR 0 1024 (linkC bs).to) || !inR 0 200 (linkC bs).ty) || !inR (-1) 2048 (linkC bs).fp) || !inR (-1) 2048 (linkC bs).fn) || !inR (-1) 2048 (linkC bs).tp) || !inR (-1) 2048 (linkC bs).tn) || !inR (-1) 65536 (linkC bs).pr) = !refRelOk (linkC bs) := by
    unfold refRelOk linkR
    cases inR 0 1024 (linkC bs).fr <;> cases inR 0 1024 (linkC bs).to <;> cases inR 0 200 (linkC bs).ty <;> cases inR (-1) 2048 (linkC bs).fp <;> cases inR (-1) 2048 (linkC bs).fn <;> cases inR (-1) 2048 (linkC bs).tp <;> cases inR (-1) 2048 (linkC bs).tn <;> cases inR (-1) 65536 (linkC bs).pr <;> rfl
  rw [hw] at e8
  constructor
  · exact e8
  · unfold relV
    rw [v0, v1, v2, v3, v4, v5, v6, v7]
    rfl
theorem relQ_leftT (bs : List Nat) (k : Nat) (hl : (relQ (.r bs 0, false) relBl).1.left k) : bs.length = k + 30 := by
  have h8 : (relQ8 (.r bs 0, false) relBl).1.left k := hl
  have h7 := (fld_left (relQ7 (.r bs 0, false) relBl) (relQ7_isw _ _) 4 (by decide) (-1) 65536 relBl.pr (k + 0)).1 h8
  have h6 := (fld_left (relQ6 (.r bs 0, false) relBl) (relQ6_isw _ _) 4 (by decide) (-1) 2048 relBl.tn (k + 4)).1 h7
  have h5 := (fld_left (relQ5 (.r bs 0, false) relBl) (relQ5_isw _ _) 4 (by decide) (-1) 2048 relBl.tp (k + 8)).1 h6
  have h4 := (fld_left (relQ4 (.r bs 0, false) relBl) (relQ4_isw _ _) 4 (by decide) (-1) 2048 relBl.fn (k + 12)).1 h5
  have h3 := (fld_left (relQ3 (.r bs 0, false) relBl) (relQ3_isw _ _) 4 (by decide) (-1) 2048 relBl.fp (k + 16)).1 h4
  have h2 := (fld_left (relQ2 (.r bs 0, false) relBl) (relQ2_isw _ _) 2 (by decide) 0 200 relBl.ty (k + 20)).1 h3
  have h1 := (fld_left (relQ1 (.r bs 0, false) relBl) (relQ1_isw _ _) 4 (by decide) 0 1024 relBl.to (k + 22)).1 h2
  have h0 := (fld_left (relQ0 (.r bs 0, false) relBl) (relQ0_isw _ _) 4 (by decide) 0 1024 relBl.fr (k + 26)).1 h1
  exact h0.2
end Go.Proofs.Ytpoaokkmmoeekaa
