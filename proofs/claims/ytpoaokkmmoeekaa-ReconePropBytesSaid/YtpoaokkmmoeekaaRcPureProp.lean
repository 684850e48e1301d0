/- A property's record, written and read: pure. -/
import Derived.Test.YtpoaokkmmoeekaaRcPureA
import Derived.Test.YtpoaokkmmoeekaaRcProp
namespace Go.Proofs.Ytpoaokkmmoeekaa
open Go.RowKit
set_option linter.unusedVariables false

def PropI (x : PropC) : Prop := isI x.ky ∧ isI x.kd ∧ isI x.nu ∧ isI x.bl ∧ isI x.pv ∧ isI x.nx
/-- may this stand in a record? -/
def refPropOk (x : PropC) : Bool := inR 0 200 x.ky && inR 1 9 x.kd && inR (-1) 65536 x.pv && inR (-1) 65536 x.nx && (if x.kd < 4 then decide (x.bl = -1) else decide (x.nu = 0) && inR 0 65536 x.bl)
def refPropB (x : PropC) : List Nat := putNum 2 (uIn x.ky) ++ [(uIn x.kd) % 256] ++ putNum 8 (if x.kd < 4 then uIn x.nu else uIn (wrap64 (x.bl + 1))) ++ ptrB x.pv ++ ptrB x.nx
theorem refPropB_short (x : PropC) : (refPropB x).length ≤ 1000 := by
  have h1 := putNum_short 2 (uIn x.ky)
  have h2 := putNum_short 8 (if x.kd < 4 then uIn x.nu else uIn (wrap64 (x.bl + 1)))
  have h3 := ptrB_short x.pv
  have h4 := ptrB_short x.nx
  unfold refPropB
  simp only [List.length_append, List.length_cons, List.length_nil]
  omega
theorem isI_zero : isI 0 := by unfold isI; omega
/-- the beginning -/
def pB2 (x : PropC) : List Nat := [] ++ putNum 2 (fIn x.ky 0) ++ putNum 1 (fIn x.kd 0)
def pW3 (x : PropC) : Bool := ((false || !inR 0 200 x.ky) || !inR 0 9 x.kd) || !decide (1 ≤ x.kd)
theorem putPropQ1 (x : PropC) (hx : PropI x) : propQ1 (.w [], false) x = (.w ([] ++ putNum 2 (fIn x.ky 0)), false || !inR 0 200 x.ky) := fld_w _ _ _ _ _ _ hx.1 (by omega)
theorem putPropQ2 (x : PropC) (hx : PropI x) : propQ2 (.w [], false) x = (.w (pB2 x), (false || !inR 0 200 x.ky) || !inR 0 9 x.kd) := by
  unfold propQ2
  rw [putPropQ1 x hx]
  exact fld_w _ _ _ _ _ _ hx.2.1 (by omega)
theorem putPropK (x : PropC) (hx : PropI x) : propK (.w [], false) x = x.kd := by
  unfold propK
  rw [putPropQ1 x hx]
  exact fval_w _ _ _ _ _ hx.2.1 (by omega)
theorem putPropQ3 (x : PropC) (hx : PropI x) : propQ3 (.w [], false) x = (.w (pB2 x), pW3 x) := by
  unfold propQ3
  rw [putPropQ2 x hx, putPropK x hx]
  rfl
def pB4 (x : PropC) : List Nat := if 4 ≤ x.kd then pB2 x ++ putNum 4 (fIn 0 0) ++ putNum 4 (fIn x.bl (-1)) else pB2 x ++ putNum 8 (uIn x.nu)
def pW4 (x : PropC) : Bool := if 4 ≤ x.kd then ((pW3 x || !inR 0 1 0) || !inR (-1) 65536 x.bl) || !(decide (x.bl ≠ -1) && decide (x.nu = 0)) else pW3 x || !decide (x.bl = -1)
theorem putPropQ4 (x : PropC) (hx : PropI x) : propQ4 (.w [], false) x = (.w (pB4 x), pW4 x) := by
  unfold propQ4 pB4 pW4
  rw [putPropK x hx, putPropQ3 x hx]
  split
  · have e1 : blobQ1 (.w (pB2 x), pW3 x) = (.w (pB2 x ++ putNum 4 (fIn 0 0)), pW3 x || !inR 0 1 0) := fld_w _ _ _ _ _ _ isI_zero (by omega)
    have e2 : blobV (.w (pB2 x), pW3 x) x.bl = x.bl := by unfold blobV; rw [e1]; exact fval_w _ _ _ _ _ hx.2.2.2.1 (by omega)
    unfold blobQ
    rw [e1, e2, fld_w _ _ _ _ _ _ hx.2.2.2.1 (by omega)]
  · rfl
theorem putPropQ_eq (x : PropC) (hx : PropI x) : putPropQ x = (.w (pB4 x ++ putNum 4 (fIn x.pv (-1)) ++ putNum 4 (fIn x.nx (-1))), (pW4 x || !inR (-1) 65536 x.pv) || !inR (-1) 65536 x.nx) := by
  unfold putPropQ propQ propQ5
  rw [putPropQ4 x hx, fld_w _ _ _ _ _ _ hx.2.2.2.2.1 (by omega), fld_w _ _ _ _ _ _ hx.2.2.2.2.2 (by omega)]
theorem pW4_ok (x : PropC) : ((pW4 x || !inR (-1) 65536 x.pv) || !inR (-1) 65536 x.nx) = !refPropOk x := by
  unfold pW4 pW3 refPropOk
  by_cases h4 : 4 ≤ x.kd
  · rw [if_pos h4, if_neg (by omega)]
    have h1 : decide (1 ≤ x.kd) = true := decide_eq_true (by omega)
    have h2 : inR 0 9 x.kd = inR 1 9 x.kd := by unfold inR; rw [decide_eq_true (by omega : (0 : Int) ≤ x.kd), decide_eq_true (by omega : (1 : Int) ≤ x.kd)]
    have h3 : (inR (-1) 65536 x.bl && decide (x.bl ≠ -1)) = inR 0 65536 x.bl := by
      rw [Bool.eq_iff_iff]
      simp only [inR, Bool.and_eq_true, decide_eq_true_eq]
      omega
    have h0 : inR 0 1 0 = true := by decide
    rw [h1, h2, ← h3, h0]
    cases inR 0 200 x.ky <;> cases inR 1 9 x.kd <;> cases inR (-1) 65536 x.pv <;> cases inR (-1) 65536 x.nx <;> cases inR (-1) 65536 x.bl <;> cases decide (x.bl ≠ -1) <;> cases decide (x.nu = 0) <;> rfl
  · rw [if_neg h4, if_pos (by omega)]
    have h2 : (inR 0 9 x.kd && decide (1 ≤ x.kd)) = inR 1 9 x.kd := by
      rw [Bool.eq_iff_iff]
      simp only [inR, Bool.and_eq_true, decide_eq_true_eq]
      omega
    rw [← h2]
    cases inR 0 200 x.ky <;> cases inR 0 9 x.kd <;> cases decide (1 ≤ x.kd) <;> cases inR (-1) 65536 x.pv <;> cases inR (-1) 65536 x.nx <;> cases decide (x.bl = -1) <;> rfl
theorem putPropE_eq (x : PropC) (hx : PropI x) : putPropE x = if refPropOk x = true then 0 else 41 := by
  unfold putPropE
  rw [putPropQ_eq x hx]
  unfold Cs.endE
  simp only
  rw [pW4_ok]
  cases refPropOk x <;> rfl
theorem refPropOk_parts {x : PropC} (h : refPropOk x = true) : inR 0 200 x.ky = true ∧ inR 1 9 x.kd = true ∧ inR (-1) 65536 x.pv = true ∧ inR (-1) 65536 x.nx = true ∧ (4 ≤ x.kd → x.nu = 0 ∧ inR 0 65536 x.bl = true) ∧ (x.kd < 4 → x.bl = -1) := by
  unfold refPropOk at h
  simp only [Bool.and_eq_true] at h
  obtain ⟨⟨⟨⟨h1, h2⟩, h3⟩, h4⟩, h5⟩ := h
  refine ⟨h1, h2, h3, h4, fun hk => ?_, fun hk => ?_⟩
  · rw [if_neg (by omega)] at h5
    simp only [Bool.and_eq_true, decide_eq_true_eq] at h5
    exact h5
  · rw [if_pos hk] at h5
    simpa using h5
theorem putNum_split (n : Nat) (hn : n < 4294967296) : putNum 4 0 ++ putNum 4 n = putNum 8 n := by
  have e4 : ∀ n, putNum 4 n = enc 4 n := fun n => putNum_yes (width := 4) rfl
  have e8 : ∀ n, putNum 8 n = enc 8 n := fun n => putNum_yes (width := 8) rfl
  rw [e4, e4, e8]
  apply List.ext_getElem
  · rw [List.length_append, enc_length, enc_length, enc_length]
  · intro i h1 h2
    rw [enc_length] at h2
    have g8 : (enc 8 n)[i]'(by rw [enc_length]; exact h2) = n / 256 ^ (8 - 1 - i) % 256 := by rw [← nth_lt, enc_nth 8 n i h2]
    rw [g8]
    by_cases hi : i < 4
    · rw [List.getElem_append_left (by rw [enc_length]; exact hi)]
      have g4 : (enc 4 0)[i]'(by rw [enc_length]; exact hi) = 0 / 256 ^ (4 - 1 - i) % 256 := by rw [← nth_lt, enc_nth 4 0 i hi]
      rw [g4]
      have : n / 256 ^ (8 - 1 - i) = 0 := Nat.div_eq_of_lt (Nat.lt_of_lt_of_le hn (by
        have : 256 ^ 4 ≤ 256 ^ (8 - 1 - i) := Nat.pow_le_pow_right (by omega) (by omega)
        omega))
      rw [this]
      simp
    · rw [List.getElem_append_right (by rw [enc_length]; omega)]
      have g4 : (enc 4 n)[i - (enc 4 0).length]'(by rw [enc_length, enc_length]; omega) = n / 256 ^ (4 - 1 - (i - 4)) % 256 := by
        rw [← nth_lt, enc_nth 4 n _ (by rw [enc_length]; omega), enc_length]
      rw [g4, show 4 - 1 - (i - 4) = 8 - 1 - i from by omega]
theorem putPropB_eq (x : PropC) (hx : PropI x) (hok : refPropOk x = true) : (putPropQ x).1.bytes = refPropB x := by
  obtain ⟨h1, h2, h3, h4, h5, h6⟩ := refPropOk_parts hok
  rw [putPropQ_eq x hx]
  show pB4 x ++ putNum 4 (fIn x.pv (-1)) ++ putNum 4 (fIn x.nx (-1)) = refPropB x
  unfold refPropB ptrB pB4 pB2
  rw [fIn_one x.pv, fIn_one x.nx, fIn_zero _ hx.1, fIn_zero _ hx.2.1, putNum_one]
  by_cases hk : 4 ≤ x.kd
  · obtain ⟨h7, h8⟩ := h5 hk
    obtain ⟨l1, l2⟩ := (inR_iff _ _ _).1 h8
    have hz : fIn 0 0 = 0 := by unfold fIn; rw [wrapU64, wrap64_eq]; rfl
    have hs : uIn (wrap64 (x.bl + 1)) < 4294967296 := by unfold uIn; rw [wrapU64, wrap64_eq]; omega
    rw [if_pos hk, if_neg (by omega), hz, fIn_one x.bl, List.append_assoc _ (putNum 4 0), putNum_split _ hs, List.nil_append]
  · rw [if_neg hk, if_pos (by omega), List.nil_append]
end Go.Proofs.Ytpoaokkmmoeekaa
