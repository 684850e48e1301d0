/- A value's bytes, as a list (nothing of the program is walked here). -/
import Derived.Test.YtgpahglmhnnobaaGreatDoorValCheckA
import Derived.Test.YtgpahglmhnnobaaGreatDoorRefSet
import Derived.Test.YtgpahglmhnnobaaGreatDoorStr
namespace Go.Proofs.YtgpahglmhnnobaaGreatDoor
open Go.RowKit
set_option linter.unusedVariables false

def encNum (e n : Int) : List Nat := putNum (nwid e) (u64 n)
def encTxt (s : ByteArray) : List Nat := enc 2 s.size ++ strBytes s
def encHead (v : Vv) : List Nat := v.k.toNat :: (if 4 < v.k then [v.ns.length + v.ts.length] else [])
def encNums (e : Int) (L : List Int) : List Nat := L.flatMap (encNum e)
def encTxts (L : List ByteArray) : List Nat := L.flatMap encTxt
def encB (v : Vv) : List Nat := encHead v ++ encNums (elK v.k) (numsOf v) ++ encTxts (txtsOf v)
def encV (v : Vv) : List Nat := if chk v = 0 then encB v else []
theorem encV_ok {v : Vv} (h : chk v = 0) : encV v = encB v := if_pos h
theorem encV_no {v : Vv} (h : chk v ≠ 0) : encV v = [] := if_neg h

theorem nwid_is (e : Int) : isW (nwid e) = true ∧ (nwid e).toNat ≤ 8 := by
  unfold nwid; split <;> exact ⟨by decide, by decide⟩
theorem nwid_cases (e : Int) : nwid e = 1 ∨ nwid e = 8 := by unfold nwid; split <;> simp
theorem encNum_eq (e n : Int) : encNum e n = enc (nwid e).toNat (u64 n) := putNum_yes (nwid_is e).1
theorem encNum_length (e n : Int) : (encNum e n).length = (nwid e).toNat := by rw [encNum_eq, enc_length]
theorem encNum_le (e n : Int) : (encNum e n).length ≤ 8 := by rw [encNum_length]; exact (nwid_is e).2
theorem encTxt_length (s : ByteArray) : (encTxt s).length = 2 + s.size := by unfold encTxt; rw [List.length_append, enc_length, strBytes_length]
theorem encNums_le (e : Int) (L : List Int) : (encNums e L).length ≤ 8 * L.length := by
  unfold encNums
  induction L with
  | nil => simp
  | cons x l ih => rw [List.flatMap_cons, List.length_append, List.length_cons]; have := encNum_le e x; omega
theorem encTxts_le (L : List ByteArray) (m : Nat) (h : ∀ s ∈ L, s.size ≤ m) : (encTxts L).length ≤ (m + 2) * L.length := by
  unfold encTxts
  induction L with
  | nil => simp
  | cons x l ih =>
    have h1 := ih fun s hs => h s (List.mem_cons_of_mem _ hs)
    have h2 := h x (List.mem_cons_self ..)
    rw [List.flatMap_cons, List.length_append, List.length_cons, encTxt_length, Nat.mul_add, Nat.mul_one]; omega
theorem encNums_step {e : Int} {L : List Int} {j : Nat} (h : j < L.length) : encNums e (L.take (j + 1)) = encNums e (L.take j) ++ encNum e (nthI L j) := by
  unfold encNums; rw [takeI_succ h, List.flatMap_append]; simp
theorem encTxts_step {L : List ByteArray} {j : Nat} (h : j < L.length) : encTxts (L.take (j + 1)) = encTxts (L.take j) ++ encTxt (nthS L j) := by
  unfold encTxts; rw [takeS_succ h, List.flatMap_append]; simp

theorem fe_zero {α : Type} (f : α → Int) (L : List α) : fe f L = 0 ↔ ∀ x ∈ L, f x = 0 := by
  induction L with
  | nil => simp [fe]
  | cons x l ih =>
    simp only [fe]
    by_cases h : f x = 0
    · simp [h, ih]
    · simp [h]
/-- what a right value is -/
structure Right (v : Vv) : Prop where
  k1 : 1 ≤ v.k
  k2 : v.k ≤ 8
  own : (3 < v.k → v.n = 0) ∧ (v.k ≠ 4 → v.s.toList = []) ∧ ((v.k < 5 ∨ v.k = 8) → v.ns = []) ∧ (v.k ≠ 8 → v.ts = [])
  cnt : v.ns.length + v.ts.length ≤ 40
  nums : ∀ x ∈ numsOf v, numW (elK v.k) x = 0
  txts : ∀ s ∈ txtsOf v, s.size ≤ 1000
theorem right_iff (v : Vv) : chk v = 0 ↔ Right v := by
  constructor
  · intro h
    unfold chk at h
    by_cases g : gk v.k = false
    · rw [if_pos g] at h; omega
    · rw [if_neg g] at h
      have g' : gk v.k = true := by simpa using g
      have hk : 1 ≤ v.k ∧ v.k ≤ 8 := by unfold gk at g'; exact of_decide_eq_true g'
      by_cases o : ownB v = false
      · rw [if_pos o] at h; omega
      · rw [if_neg o] at h
        have o' : ownB v = true := by simpa using o
        by_cases c : 40 < v.ns.length + v.ts.length
        · rw [if_pos c] at h; omega
        · rw [if_neg c] at h
          unfold el at h
          by_cases e0 : fe (numW (elK v.k)) (numsOf v) = 0
          · rw [if_pos e0] at h
            refine ⟨hk.1, hk.2, own_true o', by omega, (fe_zero _ _).1 e0, fun s hs => ?_⟩
            have := (fe_zero _ _).1 h s hs
            unfold txtW at this
            split at this
            · omega
            · omega
          · rw [if_neg e0] at h; exact absurd h e0
  · intro h
    have g : gk v.k = true := gk_yes ⟨h.k1, h.k2⟩
    have o : ownB v = true := by unfold ownB; exact decide_eq_true h.own
    rw [chk_el g o (by have := h.cnt; omega)]
    unfold el
    have e0 : fe (numW (elK v.k)) (numsOf v) = 0 := (fe_zero _ _).2 h.nums
    rw [if_pos e0]
    refine (fe_zero _ _).2 fun s hs => ?_
    have := h.txts s hs
    unfold txtW
    rw [if_neg (by omega)]
theorem Right.lens {v : Vv} (h : Right v) : (numsOf v).length ≤ 40 ∧ (txtsOf v).length ≤ 40 := by
  have := h.cnt
  rcases (show 4 < v.k ∨ v.k = 4 ∨ v.k < 4 by omega) with hk | hk | hk
  · rw [numsOf_list hk, txtsOf_list hk]; omega
  · rw [numsOf_text hk, txtsOf_text hk]; simp
  · rw [numsOf_num hk, txtsOf_num hk]; simp
theorem encHead_le (v : Vv) : (encHead v).length ≤ 2 := by unfold encHead; split <;> simp
theorem encB_le {v : Vv} (h : Right v) : (encB v).length ≤ 40402 := by
  unfold encB
  have h1 := encHead_le v
  have h2 := encNums_le (elK v.k) (numsOf v)
  have h3 := encTxts_le (txtsOf v) 1000 h.txts
  have h4 := h.lens
  rw [List.length_append, List.length_append]
  omega
theorem put1 {n : Nat} (h : n < 256) : putNum 1 n = [n] := by
  rw [putNum_yes (by decide)]
  show enc 1 n = [n]
  simp [enc]
  omega
theorem put2t (n : Nat) : putNum 2 n = enc 2 n := by
  have h := putNum_yes (width := 2) (n := n) (by decide)
  rw [show (2 : Int).toNat = 2 from rfl] at h
  exact h

end Go.Proofs.YtgpahglmhnnobaaGreatDoor
