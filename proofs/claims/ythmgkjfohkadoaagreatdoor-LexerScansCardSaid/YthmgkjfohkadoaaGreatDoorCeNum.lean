/- cell: an element that is no text, as a form: no semicolon stands in it, and what is read of it. No function of the program is named here. -/
import Derived.Test.YthmgkjfohkadoaaGreatDoorNumSpeak
import Derived.Test.YthmgkjfohkadoaaGreatDoorCePure
namespace Go.Proofs.YthmgkjfohkadoaaGreatDoor
open Go.RowKit Go.Lib
set_option linter.unusedVariables false

theorem no59_dig {l : List UInt8} (h : l.all isDig = true) : (59 : UInt8) ∉ l := fun hm => by
  have := List.all_eq_true.1 h _ hm
  exact absurd this (by decide)
theorem no59_itoa (n : Int) : (59 : UInt8) ∉ itoa n := by
  by_cases h : n < 0
  · rw [itoa_neg h]
    intro hm
    rcases List.mem_cons.1 hm with hm | hm
    · exact absurd hm (by decide)
    · exact no59_dig (dd_all _) hm
  · rw [itoa_nn (by omega)]
    exact no59_dig (dd_all _)
theorem no59_fracT (f : Nat) : (59 : UInt8) ∉ fracT f := by
  unfold fracT
  split
  · simp
  · intro hm
    rcases List.mem_cons.1 hm with hm | hm
    · exact absurd hm (by decide)
    · have := List.all_eq_true.1 (hexN_hex 13 f) _ (strip0_mem hm)
      exact absurd this (by decide)
theorem no59_expT (e : Int) : (59 : UInt8) ∉ expT e := by
  unfold expT
  split
  all_goals
    intro hm
    rcases List.mem_cons.1 hm with hm | hm
    · exact absurd hm (by decide)
    · exact no59_dig (dd_all _) hm
theorem no59_magT (m : Nat) : (59 : UInt8) ∉ magT m := by
  unfold magT
  split
  · decide
  · split
    · decide
    · intro hm
      simp only [List.mem_cons, List.mem_append] at hm
      rcases hm with hm | hm | hm | hm | hm
      · exact absurd hm (by decide)
      · exact absurd hm (by decide)
      · exact absurd hm (by decide)
      · exact no59_fracT _ hm
      · exact no59_expT _ hm
theorem no59_formF (b : Nat) : (59 : UInt8) ∉ formF b := by
  unfold formF
  split
  · decide
  · split
    · intro hm
      rcases List.mem_cons.1 hm with hm | hm
      · exact absurd hm (by decide)
      · exact no59_magT _ hm
    · exact no59_magT _

/-- what a float's form reads as is one thing -/
theorem ReadF.one {l : List UInt8} {v v' : Nat} {c c' : Int} (h : ReadF l v c) (h' : ReadF l v' c') : v = v' ∧ c = c' := by
  rcases h with ⟨rfl, h1, h2⟩ | ⟨rfl, rfl, h2⟩ <;> rcases h' with ⟨rfl, g1, g2⟩ | ⟨rfl, rfl, g2⟩
  · exact ⟨formF_inj h1 g1 (h2.trans g2.symm), rfl⟩
  · exact absurd h2 (g2 _ h1.1)
  · exact absurd g2 (h2 _ g1.1)
  · exact ⟨rfl, rfl⟩
open Classical in
noncomputable def rdF (l : List UInt8) : Nat × Int := if h : ∃ p : Nat × Int, ReadF l p.1 p.2 then h.choose else (0, 52)
theorem rdF_eq {l : List UInt8} {v : Nat} {c : Int} (h : ReadF l v c) : rdF l = (v, c) := by
  have he : ∃ p : Nat × Int, ReadF l p.1 p.2 := ⟨(v, c), h⟩
  unfold rdF
  rw [dif_pos he]
  obtain ⟨h1, h2⟩ := he.choose_spec.one h
  exact Prod.ext h1 h2

/-- the 64 bits as a whole number, and back -/
def bitsOf (n : Int) : Nat := (n % 18446744073709551616).toNat
def i64Of (b : Nat) : Int := if b < 9223372036854775808 then (b : Int) else (b : Int) - 18446744073709551616
theorem bits_i64 {b : Nat} (h : b < 18446744073709551616) : bitsOf (i64Of b) = b := by
  unfold bitsOf i64Of
  split <;> omega
theorem i64_bits {n : Int} (h0 : -9223372036854775808 ≤ n) (h1 : n ≤ 9223372036854775807) : i64Of (bitsOf n) = n := by
  unfold bitsOf i64Of
  split <;> omega
theorem bitsOf_lt (n : Int) : bitsOf n < 18446744073709551616 := by
  unfold bitsOf
  omega

/-- an element of the kind 1, 2 or 3 as a form -/
def numF (k n : Int) : Bs := if k = 2 then itoa n else if k = 3 then formF (bitsOf n) else if n = 0 then [102, 97, 108, 115, 101] else [116, 114, 117, 101]
theorem no59_numF (k n : Int) : (59 : UInt8) ∉ numF k n := by
  unfold numF
  split
  · exact no59_itoa n
  · split
    · exact no59_formF _
    · split <;> decide
/-- what is read of an element: the number, and the error's -/
noncomputable def numR (k : Int) (l : Bs) : Int × Int :=
  if k = 2 then parseI l else if k = 3 then (i64Of (rdF l).1, (rdF l).2) else if l = [116, 114, 117, 101] then (1, 0) else if l = [102, 97, 108, 115, 101] then (0, 0) else (0, 220)
theorem numR_back {k n : Int} (h0 : -9223372036854775808 ≤ n) (h1 : n ≤ 9223372036854775807) (hb : k ≠ 2 → k ≠ 3 → n = 0 ∨ n = 1) (hf : k = 3 → canon (bitsOf n)) : numR k (numF k n) = (n, 0) := by
  unfold numR numF
  by_cases h2 : k = 2
  · rw [if_pos h2, if_pos h2]
    exact parseI_itoa h0 h1
  · rw [if_neg h2, if_neg h2]
    by_cases h3 : k = 3
    · rw [if_pos h3, if_pos h3, rdF_eq (.inl ⟨rfl, hf h3, rfl⟩)]
      exact Prod.ext (i64_bits h0 h1) rfl
    · rw [if_neg h3, if_neg h3]
      rcases hb h2 h3 with rfl | rfl <;> rfl
theorem rdF_ok {l : Bs} (h : ∃ v c, ReadF l v c) (h0 : (rdF l).2 = 0) : formF (rdF l).1 = l ∧ canon (rdF l).1 := by
  obtain ⟨v, c, hv⟩ := h
  rw [rdF_eq hv] at h0 ⊢
  rcases hv with ⟨_, h1, h2⟩ | ⟨h1, _⟩
  · exact ⟨h2, h1⟩
  · have h3 : c = 0 := h0
    rw [h1] at h3
    exact absurd h3 (by decide)
theorem numR_one {k : Int} {l : Bs} (hr : ∃ v c, ReadF l v c) (h : (numR k l).2 = 0) : l = numF k (numR k l).1 := by
  unfold numR at h ⊢
  unfold numF
  by_cases h2 : k = 2
  · rw [if_pos h2] at h ⊢
    rw [if_pos h2]
    exact ((itoa_parseI (l := l) (n := (parseI l).1) (by rw [← h])).1).symm
  · rw [if_neg h2] at h ⊢
    rw [if_neg h2]
    by_cases h3 : k = 3
    · rw [if_pos h3] at h ⊢
      rw [if_pos h3]
      obtain ⟨h4, h5⟩ := rdF_ok hr h
      show l = formF (bitsOf (i64Of (rdF l).1))
      rw [bits_i64 h5.1, h4]
    · rw [if_neg h3] at h ⊢
      rw [if_neg h3]
      by_cases h4 : l = [116, 114, 117, 101]
      · rw [if_pos h4]; exact h4
      · rw [if_neg h4] at h ⊢
        by_cases h5 : l = [102, 97, 108, 115, 101]
        · rw [if_pos h5]; exact h5
        · rw [if_neg h5] at h
          exact absurd h (show ¬ (220 : Int) = 0 by decide)
end Go.Proofs.YthmgkjfohkadoaaGreatDoor
