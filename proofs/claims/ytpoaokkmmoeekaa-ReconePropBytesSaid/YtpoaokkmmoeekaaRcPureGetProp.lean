/- A property's bytes, read: pure. -/
import Derived.Test.YtpoaokkmmoeekaaRcPureA
import Derived.Test.YtpoaokkmmoeekaaRcPurePropB
namespace Go.Proofs.Ytpoaokkmmoeekaa
open Go.RowKit
set_option linter.unusedVariables false

/-- eight bytes as a number -/
def num8 (bs : List Nat) : Nat := be ((bs.take 11).drop 3)
/-- the property that these bytes may be -/
def propC (bs : List Nat) : PropC :=
  if ((atN bs 2 1 : Nat) : Int) < 4 then ⟨(atN bs 0 2 : Nat), (atN bs 2 1 : Nat), wrap64 (num8 bs : Nat), -1, (atN bs 11 4 : Nat) - 1, (atN bs 15 4 : Nat) - 1⟩
  else ⟨(atN bs 0 2 : Nat), (atN bs 2 1 : Nat), 0, (atN bs 7 4 : Nat) - 1, (atN bs 11 4 : Nat) - 1, (atN bs 15 4 : Nat) - 1⟩
/-- the four bytes ahead of a blob's pointer are zeros -/
def zeroP (bs : List Nat) : Bool := decide (((atN bs 2 1 : Nat) : Int) < 4) || decide (atN bs 3 4 = 0)
theorem k_lt {z : Int} (h : z < 4) : ¬ 4 ≤ z := by omega
theorem k_ge {z : Int} (h : ¬ z < 4) : 4 ≤ z := by omega
theorem isI_nat {n : Nat} (h : n < 4294967296) : isI (n : Int) := by unfold isI; omega
theorem isI_pred {n : Nat} (h : n < 4294967296) : isI ((n : Int) - 1) := by unfold isI; omega
theorem isI_mone : isI (-1) := by unfold isI; omega
theorem uIn_wrap {n : Nat} (h : n < 18446744073709551616) : uIn (wrap64 (n : Int)) = n := by unfold uIn; rw [wrapU64, wrap64_eq]; omega
theorem isI_wrap (n : Int) : isI (wrap64 n) := by unfold isI; rw [wrap64_eq]; omega
theorem propCI (bs : List Nat) (hb : IsBytes bs) (h : bs.length = 19) : PropI (propC bs) := by
  have l1 := atN_lt bs hb 0 2 (by omega) (by omega)
  have l2 := atN_lt bs hb 2 1 (by omega) (by omega)
  have l3 := atN_lt bs hb 7 4 (by omega) (by omega)
  have l4 := atN_lt bs hb 11 4 (by omega) (by omega)
  have l5 := atN_lt bs hb 15 4 (by omega) (by omega)
  have hw := isI_wrap (num8 bs : Nat)
  unfold propC PropI
  split
  · exact ⟨isI_nat l1, isI_nat l2, hw, isI_mone, isI_pred l4, isI_pred l5⟩
  · exact ⟨isI_nat l1, isI_nat l2, isI_zero, isI_pred l3, isI_pred l4, isI_pred l5⟩
theorem propCut (bs : List Nat) (hb : IsBytes bs) (h : bs.length = 19) : bs = putNum 2 (atN bs 0 2) ++ (putNum 1 (atN bs 2 1) ++ bs.drop 3) ∧ bs.drop 3 = putNum 4 (atN bs 3 4) ++ (putNum 4 (atN bs 7 4) ++ bs.drop 11) ∧ bs.drop 3 = putNum 8 (num8 bs) ++ bs.drop 11 ∧ bs.drop 11 = putNum 4 (atN bs 11 4) ++ (putNum 4 (atN bs 15 4) ++ []) := by
  have c0 := cut_step bs hb 0 2 (by decide) (by omega)
  have c1 := cut_step bs hb 2 1 (by decide) (by omega)
  have c2 := cut_step bs hb 3 4 (by decide) (by omega)
  have c3 := cut_step bs hb 7 4 (by decide) (by omega)
  have c4 := cut_step bs hb 11 4 (by decide) (by omega)
  have c5 := cut_step bs hb 15 4 (by decide) (by omega)
  have c6 := cut_step bs hb 3 8 (by decide) (by omega)
  have c7 : bs.drop 19 = [] := List.drop_of_length_le (by omega)
  rw [List.drop_zero] at c0
  refine ⟨?_, ?_, c6, ?_⟩
  · refine c0.trans ?_
    rw [show 0 + 2 = 2 from rfl, c1]
    rfl
  · refine c2.trans ?_
    rw [show 3 + 4 = 7 from rfl, c3]
    rfl
  · refine c4.trans ?_
    rw [show 11 + 4 = 15 from rfl, c5, show 15 + 4 = 19 from rfl, c7]
    rfl
theorem propB_back (bs : List Nat) (hb : IsBytes bs) (h : bs.length = 19) (hok : refPropOk (propC bs) = true) : refPropB (propC bs) = bs ↔ zeroP bs = true := by
  obtain ⟨p1, p2, p3, p4⟩ := propCut bs hb h
  have l1 := atN_lt bs hb 0 2 (by omega) (by omega)
  have l2 := atN_lt bs hb 2 1 (by omega) (by omega)
  have l2' : atN bs 2 1 < 256 := atN_pow bs hb 2 1 (by omega)
  have l3 := atN_lt bs hb 7 4 (by omega) (by omega)
  have l4 := atN_lt bs hb 11 4 (by omega) (by omega)
  have l5 := atN_lt bs hb 15 4 (by omega) (by omega)
  have l6 := atN_lt bs hb 3 4 (by omega) (by omega)
  have hl8 : ((bs.take 11).drop 3).length = 8 := by rw [List.length_drop, List.length_take]; omega
  rw [allP_eq _ (propCI bs hb h) hok]
  have t1 : tailP (propC bs) = bs.drop 11 := by
    rw [p4]
    unfold tailP propC
    split <;> (simp only; rw [fIn_pred _ l4, fIn_pred _ l5])
  have h1 : allP (propC bs) = putNum 2 (atN bs 0 2) ++ (putNum 1 (atN bs 2 1) ++ midP (propC bs)) := by
    unfold allP
    have e1 : (propC bs).ky = ((atN bs 0 2 : Nat) : Int) := by unfold propC; split <;> rfl
    have e2 : (propC bs).kd = ((atN bs 2 1 : Nat) : Int) := by unfold propC; split <;> rfl
    rw [e1, e2, fIn_nat _ l1, fIn_nat _ l2]
  have h2 : allP (propC bs) = bs ↔ midP (propC bs) = bs.drop 3 := by
    constructor
    · intro e
      rw [h1] at e
      have := e.trans p1
      exact List.append_cancel_left (List.append_cancel_left this)
    · intro e
      rw [h1, e]
      exact p1.symm
  rw [h2]
  have e2 : (propC bs).kd = ((atN bs 2 1 : Nat) : Int) := by unfold propC; split <;> rfl
  unfold midP zeroP
  rw [t1, e2]
  by_cases hk : ((atN bs 2 1 : Nat) : Int) < 4
  · rw [if_neg (k_lt hk), decide_eq_true hk]
    have hn : (propC bs).nu = wrap64 (num8 bs : Nat) := by unfold propC; rw [if_pos hk]
    have h8 : num8 bs < 18446744073709551616 := by
      have := be_all ((bs.take 11).drop 3) ((hb.take _).drop _)
      rw [hl8] at this
      exact this
    have hu : uIn (propC bs).nu = num8 bs := by rw [hn]; exact uIn_wrap h8
    rw [hu, ← p3]
    simp
  · rw [if_pos (k_ge hk), decide_eq_false hk]
    have hbl : (propC bs).bl = ((atN bs 7 4 : Nat) : Int) - 1 := by unfold propC; rw [if_neg hk]
    have hz : fIn 0 0 = 0 := by unfold fIn; rw [wrapU64, wrap64_eq]; rfl
    rw [hbl, fIn_pred _ l3, hz, p2]
    simp only [Bool.false_or, decide_eq_true_eq]
    constructor
    · intro e
      have e3 := List.append_inj_left e (by rw [show putNum 4 0 = enc 4 0 from putNum_yes (width := 4) rfl, show putNum 4 (atN bs 3 4) = enc 4 (atN bs 3 4) from putNum_yes (width := 4) rfl, enc_length, enc_length])
      have e4 := congrArg be e3
      rw [show putNum 4 0 = enc 4 0 from putNum_yes (width := 4) rfl, show putNum 4 (atN bs 3 4) = enc 4 (atN bs 3 4) from putNum_yes (width := 4) rfl, be_enc, be_enc] at e4
      have e5 : (256 : Nat) ^ 4 = 4294967296 := rfl
      rw [e5, Nat.mod_eq_of_lt l6, Nat.zero_mod] at e4
      exact e4.symm
    · intro e
      rw [e]
end Go.Proofs.Ytpoaokkmmoeekaa
