/- A group's bytes, read: pure. Written by mkpg.py. -/
import Derived.Test.YtmiiogailnjfpaaRcPureGet
import Derived.Test.YtmiiogailnjfpaaRdPureGroup
namespace Go.Proofs.Ytmiiogailnjfpaa
open Go.RowKit
set_option linter.unusedVariables false

def groupC (bs : List Nat) : GroupC := ⟨true, (atN bs 0 2 : Nat), (atN bs 2 4 : Nat), (atN bs 6 4 : Nat) - 1, (atN bs 10 4 : Nat) - 1, (atN bs 14 4 : Nat) - 1, (atN bs 18 4 : Nat) - 1⟩
theorem getGroup_len (bs : List Nat) (h : bs.length ≠ 22) : getGroupE bs = 4 := by
  refine endE_left _ (groupQ_isw _ _) _ fun hl => h ?_
  have h6 : (groupQ6 (.r bs 0, false) groupBl).1.left 0 := hl
  have h5 := (fld_left (groupQ5 (.r bs 0, false) groupBl) (groupQ5_isw _ _) 4 (by decide) (-1) 65536 groupBl.nx 0).1 h6
  have h4 := (fld_left (groupQ4 (.r bs 0, false) groupBl) (groupQ4_isw _ _) 4 (by decide) (-1) 2048 groupBl.lp 4).1 h5
  have h3 := (fld_left (groupQ3 (.r bs 0, false) groupBl) (groupQ3_isw _ _) 4 (by decide) (-1) 2048 groupBl.ni 8).1 h4
  have h2 := (fld_left (groupQ2 (.r bs 0, false) groupBl) (groupQ2_isw _ _) 4 (by decide) (-1) 2048 groupBl.ou 12).1 h3
  have h1 := (fld_left (groupQ1 (.r bs 0, false) groupBl) (groupQ1_isw _ _) 4 (by decide) 0 1024 groupBl.ow 16).1 h2
  have h0 := (fld_left (groupQ0 (.r bs 0, false) groupBl) (groupQ0_isw _ _) 2 (by decide) 0 200 groupBl.ty 20).1 h1
  exact h0.2
theorem groupCut (bs : List Nat) (hb : IsBytes bs) (h : bs.length = 22) : bs = putNum 2 (atN bs 0 2) ++ (putNum 4 (atN bs 2 4) ++ (putNum 4 (atN bs 6 4) ++ (putNum 4 (atN bs 10 4) ++ (putNum 4 (atN bs 14 4) ++ (putNum 4 (atN bs 18 4) ++ ([])))))) := by
  have c0 := cut_step bs hb 0 2 (by decide) (by omega)
  have c1 := cut_step bs hb 2 4 (by decide) (by omega)
  have c2 := cut_step bs hb 6 4 (by decide) (by omega)
  have c3 := cut_step bs hb 10 4 (by decide) (by omega)
  have c4 := cut_step bs hb 14 4 (by decide) (by omega)
  have c5 := cut_step bs hb 18 4 (by decide) (by omega)
  have c6 : bs.drop 22 = [] := List.drop_of_length_le (by omega)
  have c := c0
  rw [List.drop_zero] at c
  refine c.trans ?_
  rw [show 0 + 2 = 2 from rfl, c1]
  rw [show 2 + 4 = 6 from rfl, c2]
  rw [show 6 + 4 = 10 from rfl, c3]
  rw [show 10 + 4 = 14 from rfl, c4]
  rw [show 14 + 4 = 18 from rfl, c5]
  rw [show 18 + 4 = 22 from rfl, c6]
  rfl
theorem groupI (bs : List Nat) (hb : IsBytes bs) (h : bs.length = 22) : GroupI (groupC bs) := by
  have l0 := atN_lt bs hb 0 2 (by omega) (by omega)
  have l1 := atN_lt bs hb 2 4 (by omega) (by omega)
  have l2 := atN_lt bs hb 6 4 (by omega) (by omega)
  have l3 := atN_lt bs hb 10 4 (by omega) (by omega)
  have l4 := atN_lt bs hb 14 4 (by omega) (by omega)
  have l5 := atN_lt bs hb 18 4 (by omega) (by omega)
  unfold GroupI isI groupC
  simp only
  omega
theorem groupB_back (bs : List Nat) (hb : IsBytes bs) (h : bs.length = 22) : refGroupB (groupC bs) = bs := by
  rw [refGroupB_eq _ (groupI bs hb h)]
  have l0 := atN_lt bs hb 0 2 (by omega) (by omega)
  have e0 : fIn (groupC bs).ty 0 = atN bs 0 2 := fIn_nat _ l0
  have l1 := atN_lt bs hb 2 4 (by omega) (by omega)
  have e1 : fIn (groupC bs).ow 0 = atN bs 2 4 := fIn_nat _ l1
  have l2 := atN_lt bs hb 6 4 (by omega) (by omega)
  have e2 : fIn (groupC bs).ou (-1) = atN bs 6 4 := fIn_pred _ l2
  have l3 := atN_lt bs hb 10 4 (by omega) (by omega)
  have e3 : fIn (groupC bs).ni (-1) = atN bs 10 4 := fIn_pred _ l3
  have l4 := atN_lt bs hb 14 4 (by omega) (by omega)
  have e4 : fIn (groupC bs).lp (-1) = atN bs 14 4 := fIn_pred _ l4
  have l5 := atN_lt bs hb 18 4 (by omega) (by omega)
  have e5 : fIn (groupC bs).nx (-1) = atN bs 18 4 := fIn_pred _ l5
  rw [e0, e1, e2, e3, e4, e5]
  refine Eq.trans ?_ (groupCut bs hb h).symm
  simp only [List.nil_append, List.append_assoc, List.append_nil]
theorem getGroup_read (bs : List Nat) (hb : IsBytes bs) (h : bs.length = 22) : getGroupE bs = (if refGroupOk (groupC bs) = true then 0 else 41) ∧ getGroupV bs = groupC bs := by
  have k0 : fOut (lowN 2 (atN bs 0 2)) 0 = (groupC bs).ty := (out_low 2 _ (by decide) 0 (by decide) (atN_pow bs hb 0 2 (by omega))).trans (by show 0 + ((atN bs 0 2 : Nat) : Int) = ((atN bs 0 2 : Nat) : Int); omega)
  have k1 : fOut (lowN 4 (atN bs 2 4)) 0 = (groupC bs).ow := (out_low 4 _ (by decide) 0 (by decide) (atN_pow bs hb 2 4 (by omega))).trans (by show 0 + ((atN bs 2 4 : Nat) : Int) = ((atN bs 2 4 : Nat) : Int); omega)
  have k2 : fOut (lowN 4 (atN bs 6 4)) (-1) = (groupC bs).ou := (out_low 4 _ (by decide) (-1) (by decide) (atN_pow bs hb 6 4 (by omega))).trans (by show (-1) + ((atN bs 6 4 : Nat) : Int) = ((atN bs 6 4 : Nat) : Int) - 1; omega)
  have k3 : fOut (lowN 4 (atN bs 10 4)) (-1) = (groupC bs).ni := (out_low 4 _ (by decide) (-1) (by decide) (atN_pow bs hb 10 4 (by omega))).trans (by show (-1) + ((atN bs 10 4 : Nat) : Int) = ((atN bs 10 4 : Nat) : Int) - 1; omega)
  have k4 : fOut (lowN 4 (atN bs 14 4)) (-1) = (groupC bs).lp := (out_low 4 _ (by decide) (-1) (by decide) (atN_pow bs hb 14 4 (by omega))).trans (by show (-1) + ((atN bs 14 4 : Nat) : Int) = ((atN bs 14 4 : Nat) : Int) - 1; omega)
  have k5 : fOut (lowN 4 (atN bs 18 4)) (-1) = (groupC bs).nx := (out_low 4 _ (by decide) (-1) (by decide) (atN_pow bs hb 18 4 (by omega))).trans (by show (-1) + ((atN bs 18 4 : Nat) : Int) = ((atN bs 18 4 : Nat) : Int) - 1; omega)
  have hc := groupCut bs hb h
  have e0 : groupQ0 (.r bs 0, false) groupBl = (.r (putNum 2 (atN bs 0 2) ++ (putNum 4 (atN bs 2 4) ++ (putNum 4 (atN bs 6 4) ++ (putNum 4 (atN bs 10 4) ++ (putNum 4 (atN bs 14 4) ++ (putNum 4 (atN bs 18 4) ++ ([]))))))) 0, false) := by
    show ((.r bs 0, false) : Cs × Bool) = _
    exact congrArg (fun z => ((Cs.r z 0, false) : Cs × Bool)) hc
  have e1 : groupQ1 (.r bs 0, false) groupBl = (.r (putNum 4 (atN bs 2 4) ++ (putNum 4 (atN bs 6 4) ++ (putNum 4 (atN bs 10 4) ++ (putNum 4 (atN bs 14 4) ++ (putNum 4 (atN bs 18 4) ++ ([])))))) 0, (false || !inR 0 200 (groupC bs).ty)) := by
    unfold groupQ1
    rw [e0]
    refine (fld_r 2 (by decide) _ _ _ _ _ _).trans ?_
    rw [k0]
  have v0 : fval (groupQ0 (.r bs 0, false) groupBl) 2 0 groupBl.ty = (groupC bs).ty := by
    rw [e0]
    exact (fval_r 2 (by decide) _ _ _ _ _).trans k0
  have e2 : groupQ2 (.r bs 0, false) groupBl = (.r (putNum 4 (atN bs 6 4) ++ (putNum 4 (atN bs 10 4) ++ (putNum 4 (atN bs 14 4) ++ (putNum 4 (atN bs 18 4) ++ ([]))))) 0, ((false || !inR 0 200 (groupC bs).ty) || !inR 0 1024 (groupC bs).ow)) := by
    unfold groupQ2
    rw [e1]
    refine (fld_r 4 (by decide) _ _ _ _ _ _).trans ?_
    rw [k1]
  have v1 : fval (groupQ1 (.r bs 0, false) groupBl) 4 0 groupBl.ow = (groupC bs).ow := by
    rw [e1]
    exact (fval_r 4 (by decide) _ _ _ _ _).trans k1
  have e3 : groupQ3 (.r bs 0, false) groupBl = (.r (putNum 4 (atN bs 10 4) ++ (putNum 4 (atN bs 14 4) ++ (putNum 4 (atN bs 18 4) ++ ([])))) 0, (((false || !inR 0 200 (groupC bs).ty) || !inR 0 1024 (groupC bs).ow) || !inR (-1) 2048 (groupC bs).ou)) := by
    unfold groupQ3
    rw [e2]
    refine (fld_r 4 (by decide) _ _ _ _ _ _).trans ?_
    rw [k2]
  have v2 : fval (groupQ2 (.r bs 0, false) groupBl) 4 (-1) groupBl.ou = (groupC bs).ou := by
    rw [e2]
    exact (fval_r 4 (by decide) _ _ _ _ _).trans k2
  have e4 : groupQ4 (.r bs 0, false) groupBl = (.r (putNum 4 (atN bs 14 4) ++ (putNum 4 (atN bs 18 4) ++ ([]))) 0, ((((false || !inR 0 200 (groupC bs).ty) || !inR 0 1024 (groupC bs).ow) || !inR (-1) 2048 (groupC bs).ou) || !inR (-1) 2048 (groupC bs).ni)) := by
    unfold groupQ4
    rw [e3]
    refine (fld_r 4 (by decide) _ _ _ _ _ _).trans ?_
    rw [k3]
  have v3 : fval (groupQ3 (.r bs 0, false) groupBl) 4 (-1) groupBl.ni = (groupC bs).ni := by
    rw [e3]
    exact (fval_r 4 (by decide) _ _ _ _ _).trans k3
  have e5 : groupQ5 (.r bs 0, false) groupBl = (.r (putNum 4 (atN bs 18 4) ++ ([])) 0, (((((false || !inR 0 200 (groupC bs).ty) || !inR 0 1024 (groupC bs).ow) || !inR (-1) 2048 (groupC bs).ou) || !inR (-1) 2048 (groupC bs).ni) || !inR (-1) 2048 (groupC bs).lp)) := by
    unfold groupQ5
    rw [e4]
    refine (fld_r 4 (by decide) _ _ _ _ _ _).trans ?_
    rw [k4]
  have v4 : fval (groupQ4 (.r bs 0, false) groupBl) 4 (-1) groupBl.lp = (groupC bs).lp := by
    rw [e4]
    exact (fval_r 4 (by decide) _ _ _ _ _).trans k4
  have e6 : groupQ6 (.r bs 0, false) groupBl = (.r ([]) 0, ((((((false || !inR 0 200 (groupC bs).ty) || !inR 0 1024 (groupC bs).ow) || !inR (-1) 2048 (groupC bs).ou) || !inR (-1) 2048 (groupC bs).ni) || !inR (-1) 2048 (groupC bs).lp) || !inR (-1) 65536 (groupC bs).nx)) := by
    unfold groupQ6
    rw [e5]
    refine (fld_r 4 (by decide) _ _ _ _ _ _).trans ?_
    rw [k5]
  have v5 : fval (groupQ5 (.r bs 0, false) groupBl) 4 (-1) groupBl.nx = (groupC bs).nx := by
    rw [e5]
    exact (fval_r 4 (by decide) _ _ _ _ _).trans k5
  constructor
  · show (groupQ6 (.r bs 0, false) groupBl).1.endE (groupQ6 (.r bs 0, false) groupBl).2 = _
    rw [e6]
    unfold refGroupOk
    cases inR 0 200 (groupC bs).ty <;> cases inR 0 1024 (groupC bs).ow <;> cases inR (-1) 2048 (groupC bs).ou <;> cases inR (-1) 2048 (groupC bs).ni <;> cases inR (-1) 2048 (groupC bs).lp <;> cases inR (-1) 65536 (groupC bs).nx <;> rfl
  · show groupV (.r bs 0, false) groupBl = _
    unfold groupV
    rw [v0, v1, v2, v3, v4, v5]
    rfl
end Go.Proofs.Ytmiiogailnjfpaa
