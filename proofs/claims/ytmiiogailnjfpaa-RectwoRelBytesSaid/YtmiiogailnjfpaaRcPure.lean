/- Fields written and read: numbers alone. -/
import Derived.Test.YtmiiogailnjfpaaRcRef3
namespace Go.Proofs.Ytmiiogailnjfpaa
open Go.RowKit
set_option linter.unusedVariables false

def isI (x : Int) : Prop := -9223372036854775808 ≤ x ∧ x < 9223372036854775808
theorem wrap64_eq (x : Int) : wrap64 x = (x + 9223372036854775808) % 18446744073709551616 - 9223372036854775808 := by unfold wrap64; rfl
theorem out_in (x least : Int) (h : isI x) (hl : least = 0 ∨ least = -1) : fOut (fIn x least) least = x := by
  unfold fOut fIn
  rw [wrapU64, wrap64_eq, wrap64_eq, wrap64_eq]
  obtain ⟨h1, h2⟩ := h
  rcases hl with rfl | rfl <;> omega
theorem fIn_zero (x : Int) (h : isI x) : fIn x 0 = uIn x := by
  unfold fIn uIn
  rw [wrapU64, wrapU64, wrap64_eq]
  obtain ⟨h1, h2⟩ := h
  omega
theorem fIn_one (x : Int) : fIn x (-1) = uIn (wrap64 (x + 1)) := by
  unfold fIn uIn
  rw [show x - (-1) = x + 1 from by omega]
theorem fld_w (bs : List Nat) (b : Bool) (width least limit x : Int) (h : isI x) (hl : least = 0 ∨ least = -1) : fld (.w bs, b) width least limit x = (.w (bs ++ putNum width (fIn x least)), b || !inR least limit x) := by
  unfold fld Cs.go Cs.val Cs.aft Cs.num
  simp only [out_in x least h hl]
theorem fval_w (bs : List Nat) (b : Bool) (width least x : Int) (h : isI x) (hl : least = 0 ∨ least = -1) : fval (.w bs, b) width least x = x := by
  unfold fval Cs.val Cs.num
  simp only [out_in x least h hl]

/-- what stands in n's lowest bytes -/
def lowN (d : Nat) (n : Nat) : Nat := n % 256 ^ d
theorem read_w (d : Nat) (hd : d = 1 ∨ d = 2 ∨ d = 4 ∨ d = 8) (n : Nat) (rest : List Nat) : getVal (putNum (d : Int) n ++ rest) 0 (d : Int) = lowN d n ∧ placeErr (putNum (d : Int) n ++ rest).length 0 (d : Int) = 0 ∧ (putNum (d : Int) n ++ rest).drop d = rest := by
  have hw : isW (d : Int) = true := by rcases hd with rfl | rfl | rfl | rfl <;> rfl
  have hp : putNum (d : Int) n = enc d n := by rw [putNum_yes hw, Int.toNat_natCast]
  rw [hp]
  have hlen : (enc d n ++ rest).length = d + rest.length := by rw [List.length_append, enc_length]
  have h0 : placeErr (enc d n ++ rest).length 0 (d : Int) = 0 := placeErr_ok (by rw [hw]; simp) (by rw [hlen]; omega)
  refine ⟨?_, h0, ?_⟩
  · rw [getVal_ok h0, show (0 : Int).toNat + ((d : Int)).toNat = d from by simp, Int.toNat_zero, List.drop_zero, List.take_append_of_le_length (by rw [enc_length]; omega), List.take_of_length_le (by rw [enc_length]; omega), be_enc]
    rfl
  · rw [List.drop_append_of_le_length (by rw [enc_length]; omega), List.drop_of_length_le (by rw [enc_length]; omega), List.nil_append]
theorem fld_r (d : Nat) (hd : d = 1 ∨ d = 2 ∨ d = 4 ∨ d = 8) (n : Nat) (rest : List Nat) (b : Bool) (least limit z : Int) : fld (.r (putNum (d : Int) n ++ rest) 0, b) (d : Int) least limit z = (.r rest 0, b || !inR least limit (fOut (lowN d n) least)) := by
  obtain ⟨h1, h2, h3⟩ := read_w d hd n rest
  unfold fld Cs.go Cs.val Cs.aft Cs.num
  simp only [h1, h2, restOf_ok rfl, errBy_ok rfl, Int.toNat_natCast, h3]
theorem fval_r (d : Nat) (hd : d = 1 ∨ d = 2 ∨ d = 4 ∨ d = 8) (n : Nat) (rest : List Nat) (b : Bool) (least z : Int) : fval (.r (putNum (d : Int) n ++ rest) 0, b) (d : Int) least z = fOut (lowN d n) least := by
  obtain ⟨h1, h2, h3⟩ := read_w d hd n rest
  unfold fval Cs.val Cs.num
  simp only [h1]
theorem inR_iff (least limit x : Int) : inR least limit x = true ↔ least ≤ x ∧ x < limit := by simp [inR]
/-- a field that is right comes back -/
theorem back (d : Nat) (hd : d = 1 ∨ d = 2 ∨ d = 4 ∨ d = 8) (least limit x : Int) (h : inR least limit x = true) (hl : least = 0 ∨ least = -1) (hlim : (limit - least).toNat ≤ 256 ^ d) (h4 : limit ≤ 4294967296) : fOut (lowN d (fIn x least)) least = x := by
  obtain ⟨h1, h2⟩ := (inR_iff _ _ _).1 h
  unfold fOut lowN fIn
  rw [wrapU64, wrap64_eq, wrap64_eq, wrap64_eq]
  have p1 : (256 : Nat) ^ 1 = 256 := rfl
  have p2 : (256 : Nat) ^ 2 = 65536 := rfl
  have p4 : (256 : Nat) ^ 4 = 4294967296 := rfl
  have p8 : (256 : Nat) ^ 8 = 18446744073709551616 := rfl
  rcases hd with rfl | rfl | rfl | rfl
  · rw [p1] at hlim ⊢
    rcases hl with rfl | rfl <;> omega
  · rw [p2] at hlim ⊢
    rcases hl with rfl | rfl <;> omega
  · rw [p4] at hlim ⊢
    rcases hl with rfl | rfl <;> omega
  · rw [p8] at hlim ⊢
    rcases hl with rfl | rfl <;> omega
end Go.Proofs.Ytmiiogailnjfpaa
