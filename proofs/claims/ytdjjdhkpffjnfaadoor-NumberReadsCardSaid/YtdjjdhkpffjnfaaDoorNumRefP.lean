/- Layer 5, the document's own answer: floats read. -/
import Derived.Test.YtdjjdhkpffjnfaaDoorNumRef8
import Derived.Test.YtdjjdhkpffjnfaaDoorNumRefH3
import Derived.Test.YtdjjdhkpffjnfaaDoorNumRefH4
namespace Go.Proofs.YtdjjdhkpffjnfaaDoor
open Go.RowKit
set_option linter.unusedVariables false

set_option maxRecDepth 100000 in
set_option maxHeartbeats 1000000 in
theorem refGuess_small (s : ByteArray) (w : World) (h : s.size < 5) : Calls Tryd.prog 31 #[.string s] w fun e w' => e = .returned (.int .u64 0) ∧ w = w' := by
  go_enter Tryd.func31, Tryd.ntmps31
  go_wp2
  go_ret
  exact ⟨rfl, rfl⟩
theorem refGuess_any (s : ByteArray) (w : World) (hs : s.size ≤ 140737488355328) : Calls Tryd.prog 31 #[.string s] w (GS s.data.toList w) := by
  by_cases h5 : s.size < 5
  · refine (refGuess_small s w h5).mono fun e w' ⟨he, hw⟩ => ⟨0, by omega, he, fun m h0 h1 hl => ?_, hw⟩
    obtain ⟨_, _, _, _, _, _, _, _, _, _, _, _, _, _, _, hl5⟩ := mag_parts h0 h1 hl
    rw [← Lib.size_eq] at hl5
    omega
  · by_cases h : (s[3]'(by omega)).toNat = 46
    · exact refGuess4 s w hs (by omega) h
    · exact refGuess3 s w hs (by omega) h

theorem read_ref {l : List UInt8} {g v : Nat} (hn : l ≠ nanT) (hg : ∀ m, m ≤ 9218868437227405312 → cutNeg l = magT m → g = m) (hv : v = if isNeg l then 9223372036854775808 + g else g) :
    (g ≤ 9218868437227405312 → canon v) ∧ ((9218868437227405312 < g ∨ formF v ≠ l) → ∀ b, b < 18446744073709551616 → formF b ≠ l) := by
  constructor
  · intro h
    refine ⟨by rw [hv]; split <;> omega, .inl ?_⟩
    rw [hv]; split <;> omega
  · intro h b hb hl
    by_cases hnan : 9218868437227405312 < b % 9223372036854775808
    · rw [formF_nan hnan] at hl; exact hn hl.symm
    · obtain ⟨a1, a2, a3, a4⟩ := neg_mag (b % 9223372036854775808)
      by_cases hneg : 9223372036854775808 ≤ b
      · have hl2 := hl
        rw [formF_neg hnan hneg] at hl
        rw [← hl, a4] at hg
        rw [← hl, a3] at hv
        have hgm := hg _ (by omega) rfl
        have hvb : v = b := by rw [hv, if_pos rfl]; omega
        rcases h with h | h
        · omega
        · exact h (by rw [hvb]; exact hl2)
      · have hl2 := hl
        rw [formF_pos hnan hneg] at hl
        rw [← hl, a2] at hg
        rw [← hl, a1] at hv
        have hgm := hg _ (by omega) rfl
        have hvb : v = b := by rw [hv, if_neg (by simp)]; omega
        rcases h with h | h
        · omega
        · exact h (by rw [hvb]; exact hl2)

set_option maxRecDepth 100000 in
set_option maxHeartbeats 400000 in
theorem refPF_nan (w : World) : Calls Tryd.prog 20 #[.string ⟨#[48, 120, 110, 97, 110]⟩] w fun e w' => e = .returned (.tuple #[.int .u64 9221120237041090560, .int .i64 0]) ∧ w = w' := by
  go_enter Tryd.func20, Tryd.ntmps20
  go_wp2
  go_ret2
  exact ⟨rfl, rfl⟩
/-- what is known of the document's ParseFloat -/
def PFr (l : List UInt8) (w : World) (e : Ending) (w' : World) : Prop :=
  ∃ (v : Nat) (c : Int), e = .returned (.tuple #[.int .u64 v, .int .i64 c]) ∧ ReadF l v c ∧ Below w.heap.size w w'
end Go.Proofs.YtdjjdhkpffjnfaaDoor
