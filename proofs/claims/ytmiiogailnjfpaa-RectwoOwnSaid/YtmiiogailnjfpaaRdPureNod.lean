/- A node's record of version 2, written and read back: pure. -/
import Derived.Test.YtmiiogailnjfpaaRcPureLab
import Derived.Test.YtmiiogailnjfpaaRdPureRelT
import Derived.Test.YtmiiogailnjfpaaRdNodTG
namespace Go.Proofs.Ytmiiogailnjfpaa
open Go.RowKit
set_option linter.unusedVariables false

/-! ### Flags -/
def d01 (d : Bool) : Nat := if d = true then 1 else 0
theorem d01_num (d : Bool) : putNum 1 (fIn (b01 d) 0) = [d01 d] := by cases d <;> kernel_rfl
theorem d01_isI (d : Bool) : isI (b01 d) := by cases d <;> (unfold isI b01; decide)
theorem fl_w (bs : List Nat) (b d : Bool) : flQ (.w bs, b) d = (.w (bs ++ [d01 d]), b) := by
  have h := fld_w bs b 1 0 2 (b01 d) (d01_isI d) (by omega)
  rw [d01_num] at h
  refine (show flQ (.w bs, b) d = _ from h).trans ?_
  have : inR 0 2 (b01 d) = true := by cases d <;> decide
  rw [this]
  cases b <;> rfl
theorem flV_w (bs : List Nat) (b d : Bool) : flV (.w bs, b) d = d := by
  unfold flV
  rw [fval_w bs b 1 0 (b01 d) (d01_isI d) (by omega)]
  cases d <;> decide
theorem d01_cons (d : Bool) (T : List Nat) : d01 d :: T = putNum ((1 : Nat) : Int) (fIn (b01 d) 0) ++ T := by
  rw [show putNum ((1 : Nat) : Int) (fIn (b01 d) 0) = [d01 d] from d01_num d]
  rfl
theorem d01_back (d : Bool) : fOut (lowN 1 (fIn (b01 d) 0)) 0 = b01 d := back 1 (by decide) 0 2 (b01 d) (by cases d <;> decide) (by decide) (by decide) (by decide)
theorem fl_r (T : List Nat) (b d z : Bool) : flQ (.r (d01 d :: T) 0, b) z = (.r T 0, b) ∧ flV (.r (d01 d :: T) 0, b) z = d := by
  rw [d01_cons]
  constructor
  · refine (show flQ _ z = _ from fld_r 1 (by decide) _ _ _ _ _ _).trans ?_
    rw [d01_back]
    have : inR 0 2 (b01 d) = true := by cases d <;> decide
    rw [this]
    cases b <;> rfl
  · unfold flV
    have := fval_r 1 (by decide) (fIn (b01 d) 0) T b 0 (b01 z)
    rw [d01_back] at this
    rw [show fval (.r (putNum ((1 : Nat) : Int) (fIn (b01 d) 0) ++ T) 0, b) 1 0 (b01 z) = b01 d from this]
    cases d <;> decide

/-! ### The record -/
def refNodTok (x : NodC) (L : List Int) (L2 : List Nat) : Bool := inR (-1) (nodLim x.d) x.f && inR (-1) 65536 x.o && labR L && decide (L2.length = 48)
def refNodB (x : NodC) (L : List Int) : List Nat := [d01 x.d] ++ ptrB x.f ++ ptrB x.o ++ labB L
theorem dec48 (L : List Nat) : decide ((L.length : Int) = 48) = decide (L.length = 48) := by
  by_cases h : L.length = 48
  · rw [decide_eq_true h, decide_eq_true (by omega)]
  · rw [decide_eq_false h, decide_eq_false (by omega)]
theorem putNodTQ_eq (x : NodC) (L : List Int) (L2 : List Nat) (hf : isI x.f) (ho : isI x.o) (hL : ∀ y ∈ L, isI y) : putNodTQ x L L2 = (.w (refNodB x L ++ L2), !refNodTok x L L2) := by
  have e1 : nodQ1 (.w [], false) x = (.w ([] ++ [d01 x.d]), false) := fl_w [] false x.d
  have e2 : nodQ2 (.w [], false) x = (.w ([] ++ [d01 x.d] ++ putNum 4 (fIn x.f (-1))), false || !inR (-1) (nodLim x.d) x.f) := by
    unfold nodQ2
    rw [e1, flV_w]
    exact fld_w _ _ _ _ _ _ hf (by omega)
  have e3 : nodQ3 (.w [], false) x = (.w ([] ++ [d01 x.d] ++ putNum 4 (fIn x.f (-1)) ++ putNum 4 (fIn x.o (-1))), (false || !inR (-1) (nodLim x.d) x.f) || !inR (-1) 65536 x.o) := by
    unfold nodQ3
    rw [e2]
    exact fld_w _ _ _ _ _ _ ho (by omega)
  obtain ⟨l1, l2⟩ := lab_w ([] ++ [d01 x.d] ++ putNum 4 (fIn x.f (-1)) ++ putNum 4 (fIn x.o (-1))) ((false || !inR (-1) (nodLim x.d) x.f) || !inR (-1) 65536 x.o) L hL
  unfold putNodTQ nodTQ nodQ4
  rw [e3]
  simp only
  rw [l1, l2]
  unfold slS slW
  simp only
  rw [dec48]
  have hb : [] ++ [d01 x.d] ++ putNum 4 (fIn x.f (-1)) ++ putNum 4 (fIn x.o (-1)) ++ labB L = refNodB x L := by
    unfold refNodB ptrB
    rw [fIn_one, fIn_one, List.nil_append]
  rw [hb]
  unfold refNodTok
  cases inR (-1) (nodLim x.d) x.f <;> cases inR (-1) 65536 x.o <;> cases labR L <;> cases decide (L2.length = 48) <;> rfl
theorem putNodTE_eq (x : NodC) (L : List Int) (L2 : List Nat) (hf : isI x.f) (ho : isI x.o) (hL : ∀ y ∈ L, isI y) : putNodTE x L L2 = if refNodTok x L L2 = true then 0 else 41 := by
  unfold putNodTE
  rw [putNodTQ_eq x L L2 hf ho hL]
  unfold Cs.endE
  simp only
  cases refNodTok x L L2 <;> rfl
theorem putNodTB_eq (x : NodC) (L : List Int) (L2 : List Nat) (hf : isI x.f) (ho : isI x.o) (hL : ∀ y ∈ L, isI y) : (putNodTQ x L L2).1.bytes = refNodB x L ++ L2 := by
  rw [putNodTQ_eq x L L2 hf ho hL]
  rfl
theorem refNodTok_parts {x : NodC} {L : List Int} {L2 : List Nat} (h : refNodTok x L L2 = true) : inR (-1) (nodLim x.d) x.f = true ∧ inR (-1) 65536 x.o = true ∧ labR L = true ∧ L2.length = 48 := by
  unfold refNodTok at h
  simp only [Bool.and_eq_true, decide_eq_true_eq] at h
  exact ⟨h.1.1.1, h.1.1.2, h.1.2, h.2⟩
theorem refNodB_len (x : NodC) (L : List Int) : (refNodB x L).length = 17 := by
  have e4 : ∀ n, (putNum 4 n).length = 4 := fun n => by rw [putNum_yes (width := 4) rfl, enc_length]; rfl
  unfold refNodB ptrB
  simp only [List.length_append, e4, labB_length, List.length_cons, List.length_nil]
def nodBl : NodC := ⟨false, 0, 0⟩
theorem getNodT_back (x : NodC) (L : List Int) (L2 : List Nat) (hok : refNodTok x L L2 = true) : getNodTE (refNodB x L ++ L2) = 0 ∧ getNodTV (refNodB x L ++ L2) = x ∧ getNodTP (refNodB x L ++ L2) = pl8 L ∧ getNodTS (refNodB x L ++ L2) = L2 := by
  obtain ⟨o1, o2, o3, o4⟩ := refNodTok_parts hok
  have k1 : fOut (lowN 4 (fIn x.f (-1))) (-1) = x.f := back 4 (by decide) (-1) (nodLim x.d) x.f o1 (by decide) (by cases x.d <;> decide) (by cases x.d <;> decide)
  have k2 : fOut (lowN 4 (fIn x.o (-1))) (-1) = x.o := back 4 (by decide) (-1) 65536 x.o o2 (by decide) (by decide) (by decide)
  have hB : refNodB x L ++ L2 = d01 x.d :: (putNum 4 (fIn x.f (-1)) ++ (putNum 4 (fIn x.o (-1)) ++ (labB L ++ L2))) := by
    unfold refNodB ptrB
    rw [fIn_one, fIn_one]
    simp only [List.append_assoc, List.cons_append, List.nil_append]
  rw [hB]
  obtain ⟨R, hR⟩ : ∃ R, R = d01 x.d :: (putNum 4 (fIn x.f (-1)) ++ (putNum 4 (fIn x.o (-1)) ++ (labB L ++ L2))) := ⟨_, rfl⟩
  obtain ⟨f1, f2⟩ := fl_r (putNum 4 (fIn x.f (-1)) ++ (putNum 4 (fIn x.o (-1)) ++ (labB L ++ L2))) false x.d nodBl.d
  rw [← hR] at f1 f2 ⊢
  have e1 : nodQ1 (.r R 0, false) nodBl = (.r (putNum 4 (fIn x.f (-1)) ++ (putNum 4 (fIn x.o (-1)) ++ (labB L ++ L2))) 0, false) := f1
  have e2 : nodQ2 (.r R 0, false) nodBl = (.r (putNum 4 (fIn x.o (-1)) ++ (labB L ++ L2)) 0, false) := by
    unfold nodQ2
    rw [e1, f2]
    refine (fld_r 4 (by decide) _ _ _ _ _ _).trans ?_
    rw [k1, o1]
    rfl
  have e3 : nodQ3 (.r R 0, false) nodBl = (.r (labB L ++ L2) 0, false) := by
    unfold nodQ3
    rw [e2]
    refine (fld_r 4 (by decide) _ _ _ _ _ _).trans ?_
    rw [k2, o2]
    rfl
  obtain ⟨l1, l2, l3⟩ := lab_back L o3 L2
  have e4 : nodQ4 (.r R 0, false) nodBl [] = (.r L2 0, false) := by
    unfold nodQ4
    rw [e3]
    simp only
    rw [l1, l2]
  refine ⟨?_, ?_, ?_, ?_⟩
  · show (nodTQ (.r R 0, false) nodBl [] []).1.endE (nodTQ (.r R 0, false) nodBl [] []).2 = 0
    unfold nodTQ
    rw [e4]
    have this : slS (.r L2 0) [] 48 = .r [] 0 := slS_r L2 48 o4 []
    simp only
    rw [this]
    rfl
  · show nodV (.r R 0, false) nodBl = x
    have v1 : fval (nodQ1 (.r R 0, false) nodBl) 4 (-1) nodBl.f = x.f := by
      rw [e1]
      exact (fval_r 4 (by decide) _ _ false _ _).trans k1
    have v2 : fval (nodQ2 (.r R 0, false) nodBl) 4 (-1) nodBl.o = x.o := by
      rw [e2]
      exact (fval_r 4 (by decide) _ _ false _ _).trans k2
    unfold nodV
    rw [f2, v1, v2]
  · show nodPl (.r R 0, false) nodBl [] = pl8 L
    unfold nodPl
    rw [e3]
    exact l3
  · show slB (nodQ4 (.r R 0, false) nodBl []).1 48 = L2
    rw [e4]
    exact slB_r L2 48 o4
end Go.Proofs.Ytmiiogailnjfpaa
