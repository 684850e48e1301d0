/- frame: bytes turned within four neighbouring ones are told. -/
import Derived.Test.YtkdlehekignnhaaDoorFrLaw
import Derived.Test.YtkdlehekignnhaaDoorBurst
namespace Go.Proofs.YtkdlehekignnhaaDoor
open Go.RowKit Go.Shelf
set_option linter.unusedVariables false

theorem bur_append (x y : List Nat) (a : Nat) (ts : List Nat) (k : Nat) (h : a + k ≤ x.length) : bur (x ++ y) a ts k = bur x a ts k ++ y := by
  refine ext_nth (by rw [bur_length, List.length_append, List.length_append, bur_length]) fun i hi => ?_
  rw [bur_length, List.length_append] at hi
  rw [nth_append, bur_length]
  unfold bur
  rw [nth_range _ _ i (by rw [List.length_append]; exact hi)]
  by_cases h1 : i < x.length
  · rw [if_pos h1, nth_range _ _ i h1, nth_append, if_pos h1]
  · rw [if_neg h1, nth_append, if_neg h1, if_neg (by omega), Nat.xor_zero]
theorem bur_take (x : List Nat) (a : Nat) (ts : List Nat) (k m : Nat) (h : m ≤ a) : (bur x a ts k).take m = x.take m := by
  refine ext_nth (by rw [List.length_take, List.length_take, bur_length]) fun i hi => ?_
  rw [List.length_take, bur_length] at hi
  have e : ∀ l : List Nat, nth (l.take m) i = nth l i := fun l => by
    unfold nth
    simp only [List.getD_eq_getElem?_getD]
    rw [List.getElem?_take_of_lt (by omega)]
  rw [e, e]
  unfold bur
  rw [nth_range _ _ i (by omega), if_neg (by omega), Nat.xor_zero]
/-- bytes of a frame's form, whatever stands in its data -/
theorem first_form {t n C : Nat} {Y : List Nat} (hY : Y.length = 5 + n) (h5 : Y.take 5 = enc 1 t ++ enc 4 n) (hn : n ≤ 1048576) (hC : C < 4294967296) :
    frN (Y ++ enc 4 C) = n ∧ firstErr (Y ++ enc 4 C) = if C ≠ crc Y then 91 else 0 := by
  have hlen : (Y ++ enc 4 C).length = 9 + n := by rw [List.length_append, enc_length, hY]; omega
  have hN : frN (Y ++ enc 4 C) = n := by
    unfold frN
    rw [List.take_append_of_le_length (by omega), h5, List.drop_left' (enc_length 1 t), be_enc]
    exact Nat.mod_eq_of_lt (by omega)
  refine ⟨hN, ?_⟩
  unfold firstErr
  rw [hN, if_neg (by omega), if_neg (by omega), if_neg (by omega), List.take_left' hY, List.take_of_length_le (by omega), List.drop_left' hY, be_enc, Nat.mod_eq_of_lt (by omega)]
def anyTo (t : List Nat) (k : Nat) : Bool := (t.take k).any (· != 0)
theorem anyTo_succ (t : List Nat) (k : Nat) (h : k < t.length) : anyTo t (k + 1) = (anyTo t k || nth t k != 0) := by
  unfold anyTo
  rw [take_succ_nth t k h, List.any_append]; simp
/-- a frame of which bytes of its data are turned -/
theorem burst_frs {t : Nat} {d : List Nat} (hi : IsBytes d) (hd : d.length ≤ 1048576) {a : Nat} {ts : List Nat} {k : Nat} (h5 : 5 ≤ a) (hk : k ≤ ts.length) (hk4 : k ≤ 4) (hak : a + k ≤ 5 + d.length ∨ k = 0) (ht : IsBytes ts) :
    (frs (bur (fbytes t d) a ts k)).2 = (if anyTo ts k = true then 91 else 0) ∧ (anyTo ts k = false → (frs (bur (fbytes t d) a ts k)).1.length = 1) := by
  have hlb := fbody_len t d
  obtain ⟨k', a', hk', hka, hb0, h5a, hkt, hk4', hany0⟩ : ∃ k' a', k' = k ∧ a' + k' ≤ (fbody t d).length ∧ bur (fbytes t d) a ts k = bur (fbytes t d) a' ts k' ∧ 5 ≤ a' ∧ k' ≤ ts.length ∧ k' ≤ 4 ∧ anyTo ts k' = anyTo ts k := by
    rcases hak with h | h
    · exact ⟨k, a, rfl, by omega, rfl, h5, hk, hk4, rfl⟩
    · subst h
      exact ⟨0, 5, rfl, by omega, by rw [bur_zero, bur_zero], by omega, by omega, by omega, rfl⟩
  subst hk'
  rw [hb0]
  have hC : crc (fbody t d) < 4294967296 := crc_lt (fbody_is t hi)
  have e : bur (fbytes t d) a' ts k' = bur (fbody t d) a' ts k' ++ enc 4 (crc (fbody t d)) := bur_append _ _ _ _ _ hka
  have hYl : (bur (fbody t d) a' ts k').length = 5 + d.length := by rw [bur_length, hlb]
  have hY5 : (bur (fbody t d) a' ts k').take 5 = enc 1 t ++ enc 4 d.length := by
    rw [bur_take _ _ _ _ _ h5a]
    unfold fbody
    exact List.take_left' (by rw [List.length_append, enc_length, enc_length])
  obtain ⟨hN, hE⟩ := first_form hYl hY5 hd hC
  have hiff : (crc (bur (fbody t d) a' ts k') = crc (fbody t d)) ↔ anyTo ts k' = false := crc_bur (fbody t d) a' ts k' hkt hka hk4' ht
  have hlen : (bur (fbody t d) a' ts k' ++ enc 4 (crc (fbody t d))).length = 9 + d.length := by rw [List.length_append, enc_length, hYl]; omega
  rw [e]
  cases hz : anyTo ts k' with
  | false =>
    have h0 : firstErr (bur (fbody t d) a' ts k' ++ enc 4 (crc (fbody t d))) = 0 := by rw [hE, if_neg (by rw [hiff.2 hz]; simp)]
    rw [frs, if_neg (by omega), if_neg (by simpa using h0), hN]
    have hdr : (bur (fbody t d) a' ts k' ++ enc 4 (crc (fbody t d))).drop (9 + d.length) = [] := List.length_eq_zero_iff.1 (by rw [List.length_drop, hlen]; omega)
    rw [hdr, frs_nil]
    exact ⟨by simp, fun _ => rfl⟩
  | true =>
    have h0 : firstErr (bur (fbody t d) a' ts k' ++ enc 4 (crc (fbody t d))) = 91 := by
      rw [hE, if_pos]
      intro h
      have := hiff.1 h.symm
      rw [hz] at this
      cases this
    rw [frs, if_neg (by omega), if_pos (by rw [h0]; decide), h0]
    exact ⟨by simp, fun h => by cases h⟩

end Go.Proofs.YtkdlehekignnhaaDoor
