/- Bytes cut into numbers: pure. -/
import Derived.Test.YtmiiogailnjfpaaRcGet
namespace Go.Proofs.Ytmiiogailnjfpaa
open Go.RowKit
set_option linter.unusedVariables false

theorem enc_add (d a n : Nat) : enc d (a * 256 ^ d + n) = enc d n := by
  apply List.ext_getElem
  · rw [enc_length, enc_length]
  · intro k h1 h2
    rw [enc_length] at h1
    have g : ∀ m, (enc d m)[k]'(by rw [enc_length]; exact h1) = m / 256 ^ (d - 1 - k) % 256 := fun m => by rw [← nth_lt, enc_nth d m k h1]
    rw [g, g]
    have e : a * 256 ^ d = (a * 256 ^ k * 256) * 256 ^ (d - 1 - k) := by
      rw [Nat.mul_assoc (a * 256 ^ k), show 256 * 256 ^ (d - 1 - k) = 256 ^ (d - k) from by rw [show d - k = (d - 1 - k) + 1 from by omega, Nat.pow_succ, Nat.mul_comm], Nat.mul_assoc, ← Nat.pow_add, show k + (d - k) = d from by omega]
    rw [e, Nat.add_comm, Nat.add_mul_div_right _ _ (Nat.pow_pos (by omega)), Nat.add_mul_mod_self_right]
theorem enc_be (l : List Nat) (hb : IsBytes l) : enc l.length (be l) = l := by
  induction l with
  | nil => rfl
  | cons c r ih =>
    have hr : IsBytes r := fun x hx => hb x (List.mem_cons_of_mem _ hx)
    have hc : c < 256 := hb c (List.mem_cons_self ..)
    have h1 : enc (r.length + 1) (be (c :: r)) = be (c :: r) / 256 ^ r.length % 256 :: enc r.length (be (c :: r)) := by
      have := enc_split (r.length + 1) (be (c :: r)) 0 (by omega)
      rw [List.drop_zero, enc_drop _ _ _ (by omega)] at this
      exact this
    have hlt := be_all r hr
    rw [List.length_cons, h1, be_cons, enc_add, ih hr]
    congr 1
    rw [Nat.add_comm, Nat.add_mul_div_right _ _ (Nat.pow_pos (by omega)), Nat.div_eq_of_lt hlt]
    omega
theorem putNum_at (bs : List Nat) (hb : IsBytes bs) (f d : Nat) (hd : d = 1 ∨ d = 2 ∨ d = 4 ∨ d = 8) (h : f + d ≤ bs.length) : putNum (d : Int) (atN bs f d) = (bs.take (f + d)).drop f := by
  have hw : isW (d : Int) = true := by rcases hd with rfl | rfl | rfl | rfl <;> rfl
  have hl : ((bs.take (f + d)).drop f).length = d := by simp; omega
  have := enc_be ((bs.take (f + d)).drop f) ((hb.take _).drop _)
  rw [hl] at this
  rw [putNum_yes hw, Int.toNat_natCast]
  exact this
theorem cut_step (bs : List Nat) (hb : IsBytes bs) (f d : Nat) (hd : d = 1 ∨ d = 2 ∨ d = 4 ∨ d = 8) (h : f + d ≤ bs.length) : bs.drop f = putNum (d : Int) (atN bs f d) ++ bs.drop (f + d) := by
  rw [putNum_at bs hb f d hd h]
  have e : (bs.take (f + d)).drop f = (bs.drop f).take d := by rw [List.drop_take]; congr 1; omega
  rw [e, ← List.drop_drop, List.take_append_drop]
theorem out_low (d n : Nat) (hd : d = 1 ∨ d = 2 ∨ d = 4) (least : Int) (hl : least = 0 ∨ least = -1) (hn : n < 256 ^ d) : fOut (lowN d n) least = least + n := by
  unfold fOut lowN
  rw [Nat.mod_eq_of_lt hn, wrap64_eq, wrap64_eq]
  have h4 : n < 4294967296 := by
    rcases hd with rfl | rfl | rfl
    · have : (256 : Nat) ^ 1 = 256 := rfl
      omega
    · have : (256 : Nat) ^ 2 = 65536 := rfl
      omega
    · have : (256 : Nat) ^ 4 = 4294967296 := rfl
      omega
  rcases hl with rfl | rfl <;> omega
theorem atN_pow (bs : List Nat) (hb : IsBytes bs) (f d : Nat) (h : f + d ≤ bs.length) : atN bs f d < 256 ^ d := by
  unfold atN
  have h1 := be_all ((bs.take (f + d)).drop f) ((hb.take _).drop _)
  have h2 : ((bs.take (f + d)).drop f).length = d := by simp; omega
  rwa [h2] at h1
theorem fIn_nat (n : Nat) (hn : n < 4294967296) : fIn (n : Int) 0 = n := by
  unfold fIn
  rw [wrapU64, wrap64_eq]
  omega
theorem fIn_pred (n : Nat) (hn : n < 4294967296) : fIn ((n : Int) - 1) (-1) = n := by
  unfold fIn
  rw [wrapU64, wrap64_eq]
  omega

/-! ### The whole length -/
/-- k bytes are left, and nothing went wrong -/
def Cs.left (s : Cs) (k : Nat) : Prop := match s with
  | .w _ => False
  | .r bs err => err = 0 ∧ bs.length = k
theorem aft_left (s : Cs) (hs : s.isw = false) (d : Nat) (hd : d = 1 ∨ d = 2 ∨ d = 4 ∨ d = 8) (n k : Nat) : (s.aft (d : Int) n).left k ↔ s.left (k + d) := by
  have hw : isW (d : Int) = true := by rcases hd with rfl | rfl | rfl | rfl <;> rfl
  cases s with
  | w bs => cases hs
  | r bs err =>
    unfold Cs.aft Cs.left
    simp only
    by_cases h : d ≤ bs.length
    · have h0 : placeErr bs.length 0 (d : Int) = 0 := placeErr_ok (by rw [hw]; simp) (by omega)
      rw [h0, restOf_ok rfl, errBy_ok rfl, Int.toNat_natCast, List.length_drop]
      constructor
      · rintro ⟨h1, h2⟩; exact ⟨h1, by omega⟩
      · rintro ⟨h1, h2⟩; exact ⟨h1, by omega⟩
    · have h0 : placeErr bs.length 0 (d : Int) = 10 := placeErr_short (by rw [hw]; simp) (by omega)
      rw [h0]
      constructor
      · rintro ⟨h1, h2⟩
        exfalso
        unfold errBy errOf at h1
        rw [if_neg (by decide)] at h1
        by_cases he : err = 0
        · rw [if_pos he] at h1; cases h1
        · rw [if_neg he] at h1; exact he h1
      · rintro ⟨h1, h2⟩; omega
theorem fld_left (q : Cs × Bool) (hs : q.1.isw = false) (d : Nat) (hd : d = 1 ∨ d = 2 ∨ d = 4 ∨ d = 8) (least limit z : Int) (k : Nat) : (fld q (d : Int) least limit z).1.left k ↔ q.1.left (k + d) := aft_left q.1 hs d hd _ k
theorem endE_left (s : Cs) (hs : s.isw = false) (wr : Bool) (h : ¬ s.left 0) : s.endE wr = 4 := by
  cases s with
  | w bs => cases hs
  | r bs err =>
    have e : endOf bs.length err ≠ 0 := by
      by_cases he : err = 0
      · have hn : 0 < bs.length := by
          rcases Nat.eq_zero_or_pos bs.length with h0 | h0
          · exact absurd (show (Cs.r bs err).left 0 from ⟨he, h0⟩) h
          · exact h0
        rw [endOf_yes ⟨he, hn⟩]
        decide
      · rw [endOf_no (fun h => he h.1)]
        exact he
    unfold Cs.endE
    simp only
    rw [if_neg e]
end Go.Proofs.Ytmiiogailnjfpaa
