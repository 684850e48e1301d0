/- Layer 5: one float, one form; what the document fixes. -/
import Derived.Test.YthmgkjfohkadoaaGreatDoorNumFloat
namespace Go.Proofs.YthmgkjfohkadoaaGreatDoor
open Go.RowKit
set_option linter.unusedVariables false

theorem fracT_inj {f g : Nat} (hf : f < 4503599627370496) (hg : g < 4503599627370496) (h : fracT f = fracT g) : f = g := by
  have a := (fracD_fracT f hf).1
  have b := (fracD_fracT g hg).1
  rw [h] at a
  rw [← valx_frac f hf, ← a, b, valx_frac g hg]
theorem expT_inj {x y : Int} (h : expT x = expT y) : x = y := by
  by_cases hx : x < 0 <;> by_cases hy : y < 0
  · rw [expT_neg hx, expT_neg hy] at h
    injection h with _ h
    have := congrArg (vald 0) h
    rw [dd_val, dd_val] at this; omega
  · rw [expT_neg hx, expT_nn hy] at h
    injection h with h _
    exact absurd h (by decide)
  · rw [expT_nn hx, expT_neg hy] at h
    injection h with h _
    exact absurd h (by decide)
  · rw [expT_nn hx, expT_nn hy] at h
    injection h with _ h
    have := congrArg (vald 0) h
    rw [dd_val, dd_val] at this; omega
theorem magT_inj {m n : Nat} (hm : m ≤ 9218868437227405312) (hn : n ≤ 9218868437227405312) (h : magT m = magT n) : m = n := by
  have zero : ∀ k, k ≤ 9218868437227405312 → magT k = magT 0 → k = 0 := fun k hk he => by
    rcases Nat.eq_zero_or_pos k with rfl | h0
    · rfl
    · by_cases hi : k = 9218868437227405312
      · subst hi; rw [magT_inf] at he; exact absurd he (by decide)
      · obtain ⟨r, hr⟩ := magT_third h0 (show k < 9218868437227405312 by omega)
        rw [hr] at he
        injection he with _ he
        injection he with _ he
        injection he with he _
        exact absurd he (by decide)
  rcases Nat.eq_zero_or_pos m with rfl | hm0
  · exact (zero n hn h.symm).symm
  · rcases Nat.eq_zero_or_pos n with rfl | hn0
    · exact zero m hm h
    · by_cases mi : m = 9218868437227405312
      · subst mi
        rw [magT_inf] at h
        exact (magT_inf_only hn h.symm).symm
      · by_cases ni : n = 9218868437227405312
        · subst ni; rw [magT_inf] at h; exact magT_inf_only hm h
        · have hm1 : m < 9218868437227405312 := by omega
          have hn1 : n < 9218868437227405312 := by omega
          obtain ⟨_, a, b, c⟩ := mag_look hm0 hm1 rfl
          obtain ⟨_, a', b', c'⟩ := mag_look hn0 hn1 rfl
          rw [h] at a b c
          have hl : (fracT (fracF m)).length = (fracT (fracF n)).length := by omega
          rw [hl] at b c
          have hf := fracT_inj (fracF_lt m) (fracF_lt n) (c.symm.trans c')
          have he := expT_inj (b.symm.trans b')
          rw [← join_split hm0 hm1, ← join_split hn0 hn1, hf, he]
theorem formF_inj {a b : Nat} (ha : canon a) (hb : canon b) (h : formF a = formF b) : a = b := by
  obtain ⟨a1, a2⟩ := ha
  obtain ⟨b1, b2⟩ := hb
  have key : ∀ c, c < 18446744073709551616 → c % 9223372036854775808 ≤ 9218868437227405312 → formF c ≠ nanT := fun c hc hl he => by
    by_cases hn : 9223372036854775808 ≤ c
    · rw [formF_neg (by omega) hn] at he
      obtain ⟨r, hr, _⟩ := magT_head (c % 9223372036854775808)
      unfold nanT at he
      injection he with he _
      exact absurd he (by decide)
    · rw [formF_pos (by omega) hn] at he
      exact magT_ne_nan hl he
  by_cases an : 9218868437227405312 < a % 9223372036854775808
  · have a3 : a = 9221120237041090560 := by omega
    rw [formF_nan an] at h
    by_cases bn : 9218868437227405312 < b % 9223372036854775808
    · omega
    · exact absurd h.symm (key b b1 (by omega))
  · by_cases bn : 9218868437227405312 < b % 9223372036854775808
    · rw [formF_nan bn] at h
      exact absurd h (key a a1 (by omega))
    · obtain ⟨p1, p2, p3, p4⟩ := neg_mag (a % 9223372036854775808)
      obtain ⟨q1, q2, q3, q4⟩ := neg_mag (b % 9223372036854775808)
      by_cases ha2 : 9223372036854775808 ≤ a <;> by_cases hb2 : 9223372036854775808 ≤ b
      · rw [formF_neg an ha2, formF_neg bn hb2] at h
        injection h with _ h
        have := magT_inj (by omega) (by omega) h
        omega
      · rw [formF_neg an ha2, formF_pos bn hb2] at h
        rw [h, q1] at p3; cases p3
      · rw [formF_pos an ha2, formF_neg bn hb2] at h
        rw [← h, p1] at q3; cases q3
      · rw [formF_pos an ha2, formF_pos bn hb2] at h
        have := magT_inj (by omega) (by omega) h
        omega
/-- the answer is one -/
theorem readF_one {l : List UInt8} {v v' : Nat} {c c' : Int} (h : ReadF l v c) (h' : ReadF l v' c') : v = v' ∧ c = c' := by
  rcases h with ⟨rfl, a, b⟩ | ⟨rfl, rfl, b⟩
  · rcases h' with ⟨rfl, a', b'⟩ | ⟨rfl, rfl, b'⟩
    · exact ⟨formF_inj a a' (b.trans b'.symm), rfl⟩
    · exact absurd b (b' v a.1)
  · rcases h' with ⟨rfl, a', b'⟩ | ⟨rfl, rfl, b'⟩
    · exact absurd b' (b v' a'.1)
    · exact ⟨rfl, rfl⟩
theorem readF_form {b : Nat} (h : canon b) : ReadF (formF b) b 0 := .inl ⟨rfl, h, rfl⟩

theorem itoa_70 : Lib.itoa (-70) = [45, 55, 48] := by
  rw [itoa_neg (by omega), show Int.natAbs (-70) = 70 from rfl, dd_big (by omega), dd_small (by omega)]; rfl
theorem itoa_205 : Lib.itoa 205 = [50, 48, 53] := by
  rw [itoa_nn (by omega), show Int.toNat 205 = 205 from rfl, dd_big (by omega), dd_big (by omega), dd_small (by omega)]; rfl
theorem form_15 : formF 4609434218613702656 = [48, 120, 49, 46, 56, 112, 48] := by
  rw [formF_pos (by omega) (by omega), magT_pos (by omega) (by omega), show expoF (4609434218613702656 % 9223372036854775808) = 0 by decide, expT_nn (by omega), show Int.toNat 0 = 0 from rfl, dd_small (by omega)]
  decide
theorem form_q : formF 13821547256400052224 = [45, 48, 120, 49, 109, 50] := by
  rw [formF_neg (by omega) (by omega), magT_pos (by omega) (by omega), show expoF (13821547256400052224 % 9223372036854775808) = -2 by decide, expT_neg (by omega), show Int.natAbs (-2) = 2 from rfl, dd_small (by omega)]
  decide
theorem canon_15 : canon 4609434218613702656 := ⟨by omega, .inl (by omega)⟩

end Go.Proofs.YthmgkjfohkadoaaGreatDoor
