/- Num of the document's Reader. -/
import Derived.Test.YtehhffbnmgdpeaaRefReader
import Derived.Test.YtehhffbnmgdpeaaRNum
import Derived.Test.YtehhffbnmgdpeaaRRaw
namespace Go.Proofs.Ytehhffbnmgdpeaa
open Go.RowKit
set_option linter.unusedVariables false

theorem placeErr_raw (len : Nat) {width : Int} (h : isW width = true) : placeErr len 0 width = rawErr len width := by
  have hw : width = 1 ∨ width = 2 ∨ width = 4 ∨ width = 8 := of_decide_eq_true h
  by_cases hl : (len : Int) < width
  · rw [placeErr_short (by simp [h]) (by omega), rawErr_short (by omega) hl]
  · rw [placeErr_ok (by simp [h]) (by omega), rawErr_ok (by omega) hl]
theorem getVal_raw (bs : List Nat) {width : Int} (h : isW width = true) : getVal bs 0 width = be (rawVal bs width) := by
  by_cases h0 : rawErr bs.length width = 0
  · rw [getVal_ok (by rw [placeErr_raw _ h]; exact h0), rawVal_ok h0]
    simp
  · rw [getVal_err (by rw [placeErr_raw _ h]; exact h0), rawVal_no h0]
    rfl
theorem rawVal_len (bs : List Nat) {width : Int} (h : isW width = true) : (rawVal bs width).length ≤ 8 := by
  have hw : width = 1 ∨ width = 2 ∨ width = 4 ∨ width = 8 := of_decide_eq_true h
  unfold rawVal
  split
  · rw [List.length_take]; omega
  · simp
theorem placeErr_nil (width : Int) : placeErr 0 0 width ≠ 0 := by
  by_cases h : isW width = true
  · have hw : width = 1 ∨ width = 2 ∨ width = 4 ∨ width = 8 := of_decide_eq_true h
    rw [placeErr_short (by simp [h]) (by omega)]
    decide
  · rw [placeErr_arg (.inl (by simpa using h))]
    decide
theorem getVal_nil (width : Int) : getVal [] 0 width = 0 := getVal_err (placeErr_nil width)

/-- what Num of the document's leaves -/
def FNumPost (base g : Nat) (A : Option Addr) (c : Nat) (b : List Nat) (k : Nat) (err width : Int) (w : World) (e : Ending) (w' : World) : Prop :=
  e = .returned (.int .u64 (getVal (lf b k err) 0 width : Nat)) ∧ FRead base g A c b k err (placeErr (lf b k err).length 0 width) width w w'

set_option maxHeartbeats 1000000 in
theorem FNum_any (base g : Nat) (A : Option Addr) (c B : Nat) (b : List Nat) (k : Nat) (err width : Int) (w : World) (h : Rf w base g A c b k err) (hr : RB w B A b) (hB : B ≤ w.heap.size) (hc : b.length ≤ c) (hm : c ≤ 140737488355328) (hn1 : -9223372036854775808 ≤ width) (hn2 : width ≤ 9223372036854775807) :
    Calls Try.prog 26 #[.pointer (some ⟨g, 0, none⟩), .int .i64 width] w (FNumPost base g A c b k err width w) := by
  have hc2 : w.cell? ⟨g, 2, none⟩ = some (.int .i64 err) := by rw [h.1.cell 2]; rfl
  have hf2 := h.1.frozen 2
  unfold FNumPost
  by_cases h0 : err = 0
  · subst h0
    have Hwid := Lib.hid (refWidth_any width w)
    by_cases hw : isW width = false
    · rw [hw] at Hwid
      have hp : placeErr (lf b k 0).length 0 width = 2 := placeErr_arg (.inl hw)
      have hv : getVal (lf b k 0) 0 width = 0 := getVal_err (by rw [hp]; decide)
      have HB : Hid (FRead base g A c b k 0 2 width w (w.setCell ⟨g, 2, none⟩ (.int .i64 2))) := Lib.hid (by
        have h2 := h.1.set_ 2 (.int .i64 2)
        exact ⟨k, 2, ⟨by simpa using h2, h.2⟩, by rw [lf_no (by decide), restOf_no (by decide)], by rw [errBy_no (by decide)]; rfl, (Only.refl (fun k => k = g) w).setCell (p := ⟨g, 2, none⟩) (.inl rfl) _⟩)
      rw [hp, hv]
      clear h hr hp hv hw
      go_enter Try.func26, Try.ntmps26
      go_wp2_with (go_at_call 36; refine (Hwid.out).mono ?_; rintro e w' ⟨rfl, rfl⟩)
      go_ret
      exact ⟨rfl, HB.out⟩
    · have hw : isW width = true := by simpa using hw
      rw [hw] at Hwid
      have HR := Lib.hid (FRaw_any base g A c B b k 0 width w h hr hB hc hm hn1 hn2)
      have hl8 := rawVal_len (lf b k 0) hw
      rw [placeErr_raw _ hw, getVal_raw _ hw]
      clear h hr hw
      go_enter Try.func26, Try.ntmps26
      go_wp2_with (first | (go_at_call 36; refine (Hwid.out).mono ?_; rintro e w' ⟨rfl, rfl⟩) | (go_at_call 28; refine (HR.out).mono ?_; rintro e w1 ⟨v1, rfl, ho1, hf1⟩; obtain ⟨A1, c1, rfl, -, -, hr1, -⟩ := ho1.form) | (go_at_call 37; refine (Val_any A1 c1 _ _ w1 hr1 hl8).mono ?_; rintro e w2 ⟨rfl, rfl⟩))
      go_ret
      exact ⟨rfl, hf1⟩
  · have HX : Hid (FRead base g A c b k err (placeErr (lf b k err).length 0 width) width w w) := Lib.hid
      ⟨k, err, h, by rw [lf_no h0, restOf_nil], (errBy_ne _ h0).symm, Only.refl _ _⟩
    have hv : getVal (lf b k err) 0 width = 0 := by rw [lf_no h0]; exact getVal_nil width
    rw [hv]
    have hb : (err != 0) = true := by simpa using h0
    clear h hr h0 hv
    go_enter Try.func26, Try.ntmps26
    go_wp2
    go_ret
    exact ⟨rfl, HX.out⟩

end Go.Proofs.Ytehhffbnmgdpeaa
