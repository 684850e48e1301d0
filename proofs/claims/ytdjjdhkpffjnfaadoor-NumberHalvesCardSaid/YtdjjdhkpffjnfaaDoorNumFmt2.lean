/- Layer 5: exponents, magnitudes, floats as texts. -/
import Derived.Test.YtdjjdhkpffjnfaaDoorNumFmt
namespace Go.Proofs.YtdjjdhkpffjnfaaDoor
open Go.RowKit
set_option linter.unusedVariables false

theorem str_size (l : List UInt8) : ByteArray.size ⟨l.toArray⟩ = l.length := by simp [ByteArray.size]
theorem dd_len {n : Nat} (h : n < 10000) : (Lib.decDigits n).length ≤ 4 := by
  rw [Lib.decDigits_length]
  by_cases h1 : n < 10
  · rw [Lib.nDigits_small h1]; omega
  rw [Lib.nDigits_big h1]
  by_cases h2 : n / 10 < 10
  · rw [Lib.nDigits_small h2]; omega
  rw [Lib.nDigits_big h2]
  by_cases h3 : n / 10 / 10 < 10
  · rw [Lib.nDigits_small h3]; omega
  rw [Lib.nDigits_big h3]
  rw [Lib.nDigits_small (by omega)]; omega
theorem expT_neg {e : Int} (h : e < 0) : expT e = 109 :: Lib.decDigits e.natAbs := by unfold expT; rw [if_pos h]
theorem expT_nn {e : Int} (h : ¬ e < 0) : expT e = 112 :: Lib.decDigits e.toNat := by unfold expT; rw [if_neg h]
theorem expT_len {e : Int} (h0 : -1074 ≤ e) (h1 : e ≤ 1023) : (expT e).length ≤ 5 := by
  unfold expT
  split
  · have := dd_len (n := e.natAbs) (by omega); simp; omega
  · have := dd_len (n := e.toNat) (by omega); simp; omega
theorem fracT_len (f : Nat) : (fracT f).length ≤ 14 := by
  unfold fracT
  split
  · simp
  · have := strip0_le (hexN f 13); rw [hexN_len] at this; simp; omega

set_option maxRecDepth 100000 in
set_option maxHeartbeats 400000 in
theorem exponent_any (e : Int) (w : World) (hT : Tabs w) (h0 : -1074 ≤ e) (h1 : e ≤ 1023) :
    Calls Tryd.prog 38 #[.int .i64 e] w fun e' w' => e' = .returned (.string ⟨(expT e).toArray⟩) ∧ Below w.heap.size w w' := by
  have HT := Lib.hid hT
  clear hT
  by_cases hn : e < 0
  · have HX := Lib.hid (expT_neg hn)
    have HI : Hid (Lib.itoa (-e) = Lib.decDigits e.natAbs) := Lib.hid (by rw [itoa_nn (by omega)]; congr 1; omega)
    have hl := dd_len (n := e.natAbs) (by omega)
    obtain ⟨L, hL⟩ : ∃ L, L = Lib.decDigits e.natAbs := ⟨_, rfl⟩
    rw [← hL] at HX HI hl
    clear hL
    obtain ⟨S, hS⟩ : ∃ S : ByteArray, S = ⟨L.toArray⟩ := ⟨_, rfl⟩
    have hs : S.size ≤ 4 := by rw [hS, str_size]; exact hl
    have HS := Lib.hid hS
    clear hS hl
    go_enter Tryd.func38, Tryd.ntmps38
    go_wp2_with fail
    refine (Tryd.strconv_Itoa (-e) (by omega) (by omega) _ HT.out.pow).mono ?_
    rintro e' w1 ⟨rfl, hb⟩
    have hb := of_grow hb
    rw [HI.out, ← HS.out]
    go_wp2
    go_ret
    exact ⟨ret_str' (by rw [HX.out, HS.out]; exact app_str [109] _), hb⟩
  · have HX := Lib.hid (expT_nn hn)
    have HI : Hid (Lib.itoa e = Lib.decDigits e.toNat) := Lib.hid (by rw [itoa_nn (by omega)])
    have hl := dd_len (n := e.toNat) (by omega)
    obtain ⟨L, hL⟩ : ∃ L, L = Lib.decDigits e.toNat := ⟨_, rfl⟩
    rw [← hL] at HX HI hl
    clear hL
    obtain ⟨S, hS⟩ : ∃ S : ByteArray, S = ⟨L.toArray⟩ := ⟨_, rfl⟩
    have hs : S.size ≤ 4 := by rw [hS, str_size]; exact hl
    have HS := Lib.hid hS
    have hnn : 0 ≤ e := by omega
    clear hS hl hn
    go_enter Tryd.func38, Tryd.ntmps38
    go_wp2_with fail
    refine (Tryd.strconv_Itoa e (by omega) (by omega) _ HT.out.pow).mono ?_
    rintro e' w1 ⟨rfl, hb⟩
    have hb := of_grow hb
    rw [HI.out, ← HS.out]
    go_wp2
    go_ret
    exact ⟨ret_str' (by rw [HX.out, HS.out]; exact app_str [112] _), hb⟩

theorem magT_zero : magT 0 = [48, 120, 48] := rfl
theorem magT_inf : magT 9218868437227405312 = [48, 120, 105, 110, 102] := by unfold magT; rw [if_neg (by omega), if_pos rfl]
theorem magT_pos {m : Nat} (h0 : 0 < m) (h : m < 9218868437227405312) : magT m = 48 :: 120 :: 49 :: (fracT (fracF m) ++ expT (expoF m)) := by
  unfold magT; rw [if_neg (by omega), if_neg (by omega)]

set_option maxRecDepth 100000 in
set_option maxHeartbeats 400000 in
theorem magnitude_pos (m : Nat) (w : World) (hT : Tabs w) (h0 : 0 < m) (h : m < 9218868437227405312) :
    Calls Tryd.prog 27 #[.int .u64 m] w fun e' w' => e' = .returned (.string ⟨(magT m).toArray⟩) ∧ Below w.heap.size w w' := by
  have HX := Lib.hid (magT_pos h0 h)
  have HC := Lib.hid fun w => split_any m w h0 h
  have hf := fracF_lt m
  obtain ⟨he0, he1⟩ := expoF_bd h0 h
  have e1 : ((m : Int) == 0) = false := by rw [beq_eq_false_iff_ne]; omega
  have e2 : ((m : Int) == 9218868437227405312) = false := by rw [beq_eq_false_iff_ne]; omega
  have hF : ∃ S : ByteArray, S = ⟨(fracT (fracF m)).toArray⟩ ∧ S.size ≤ 14 := ⟨_, rfl, by rw [str_size]; exact fracT_len _⟩
  have hE : ∃ S : ByteArray, S = ⟨(expT (expoF m)).toArray⟩ ∧ S.size ≤ 5 := ⟨_, rfl, by rw [str_size]; exact expT_len he0 he1⟩
  have HFr : Hid (∀ w, Tabs w → Calls Tryd.prog 37 #[.int .u64 (fracF m)] w fun e w' => e = .returned (.string ⟨(fracT (fracF m)).toArray⟩) ∧ Below w.heap.size w w') := Lib.hid fun w hT => by
    by_cases hz : fracF m = 0
    · rw [hz]; exact fraction_zero w
    · exact fraction_pos _ w hT (by omega) (by omega)
  have HEx := Lib.hid fun w hT => exponent_any (expoF m) w hT he0 he1
  have HT := Lib.hid hT
  obtain ⟨F, hF1, hF2⟩ := hF
  obtain ⟨X, hX1, hX2⟩ := hE
  rw [← hF1] at HFr
  rw [← hX1] at HEx
  have HF1 := Lib.hid hF1
  have HX1 := Lib.hid hX1
  obtain ⟨E, hE⟩ : ∃ E, E = expoF m := ⟨_, rfl⟩
  obtain ⟨G, hG⟩ : ∃ G, G = fracF m := ⟨_, rfl⟩
  rw [← hE] at HC HEx
  rw [← hG] at HC HFr
  clear hF1 hX1 hT hf he0 he1 hE hG h0 h
  go_enter Tryd.func27, Tryd.ntmps27
  go_wp2_with fail
  refine (HC.out _).mono ?_
  rintro e' w1 ⟨rfl, rfl⟩
  go_wp2_with fail
  refine (HFr.out _ HT.out).mono ?_
  rintro e' w1 ⟨rfl, hb1⟩
  have hT1 := Lib.hid (HT.out.below hb1 (Nat.le_refl _))
  go_wp2_with fail
  refine (HEx.out _ hT1.out).mono ?_
  rintro e' w2 ⟨rfl, hb2⟩
  go_wp2
  go_ret
  refine ⟨ret_str' ?_, hb1.trans (hb2.mono hb1.size)⟩
  rw [HX.out, HF1.out, HX1.out]
  have a1 := app_str [48, 120, 49] (fracT (fracF m))
  have a2 := app_str ([48, 120, 49] ++ fracT (fracF m)) (expT (expoF m))
  rw [← a1] at a2
  simpa using a2
set_option maxHeartbeats 400000 in
theorem magnitude_zero (w : World) :
    Calls Tryd.prog 27 #[.int .u64 0] w fun e' w' => e' = .returned (.string ⟨(magT 0).toArray⟩) ∧ Below w.heap.size w w' := by
  go_enter Tryd.func27, Tryd.ntmps27
  go_wp2
  go_ret
  exact ⟨rfl, Below.refl _ _⟩
set_option maxHeartbeats 400000 in
theorem magnitude_inf (w : World) :
    Calls Tryd.prog 27 #[.int .u64 9218868437227405312] w fun e' w' => e' = .returned (.string ⟨(magT 9218868437227405312).toArray⟩) ∧ Below w.heap.size w w' := by
  have e2 : ((9218868437227405312 : Int) == 0) = false := by decide
  go_enter Tryd.func27, Tryd.ntmps27
  go_wp2
  go_ret
  exact ⟨ret_str' (by rw [magT_inf]), Below.refl _ _⟩
theorem magnitude_any (m : Nat) (w : World) (hT : Tabs w) (h : m ≤ 9218868437227405312) :
    Calls Tryd.prog 27 #[.int .u64 m] w fun e' w' => e' = .returned (.string ⟨(magT m).toArray⟩) ∧ Below w.heap.size w w' := by
  rcases Nat.eq_zero_or_pos m with rfl | h0
  · exact magnitude_zero w
  · by_cases h1 : m = 9218868437227405312
    · subst h1; exact magnitude_inf w
    · exact magnitude_pos m w hT h0 (by omega)
end Go.Proofs.YtdjjdhkpffjnfaaDoor
