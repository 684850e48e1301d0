/- Layer 5: the magnitude that a text may stand for. -/
import Derived.Test.YtdjjdhkpffjnfaaDoorNumGuess2
namespace Go.Proofs.YtdjjdhkpffjnfaaDoor
open Go.RowKit
set_option linter.unusedVariables false

/-- what is known of guessMagnitude's answer -/
def GM (l : List UInt8) (w : World) (e : Ending) (w' : World) : Prop :=
  ∃ v : Nat, v ≤ 9221120237041090560 ∧ e = .returned (.int .u64 v) ∧ (∀ m, m ≤ 9218868437227405312 → l = magT m → v = m) ∧ (l = nanT → v = 9221120237041090560) ∧ Below w.heap.size w w'

theorem fracT_ascii (f : Nat) : ∀ c ∈ fracT f, c.toNat < 128 := by
  unfold fracT
  split
  · simp
  · intro c hc
    rcases List.mem_cons.1 hc with rfl | hc
    · decide
    · have := List.all_eq_true.1 (hexN_hex 13 f) c (strip0_mem hc)
      have := of_decide_eq_true this
      omega
theorem dd_ascii (n : Nat) : ∀ c ∈ Lib.decDigits n, c.toNat < 128 := fun c hc => by
  have := of_decide_eq_true (List.all_eq_true.1 (dd_all n) c hc)
  omega
theorem expT_shape (e : Int) : ∃ c n, expT e = c :: Lib.decDigits n ∧ (c.toNat = 112 ∨ c.toNat = 109) := by
  unfold expT
  split
  · exact ⟨_, _, rfl, .inr (by decide)⟩
  · exact ⟨_, _, rfl, .inl (by decide)⟩
theorem expT_ascii (e : Int) : ∀ c ∈ expT e, c.toNat < 128 := by
  obtain ⟨c, n, h, hc⟩ := expT_shape e
  rw [h]
  intro d hd
  rcases List.mem_cons.1 hd with rfl | hd
  · omega
  · exact dd_ascii n d hd
/-- a positive finite float's text, seen from outside -/
theorem mag_look {m : Nat} (h0 : 0 < m) (h : m < 9218868437227405312) {l : List UInt8} (hl : l = magT m) :
    (∀ c ∈ l, c.toNat < 128) ∧ fpm l = (3 + (fracT (fracF m)).length : Nat) ∧ l.drop (3 + (fracT (fracF m)).length) = expT (expoF m) ∧
      (l.drop 3).take (3 + (fracT (fracF m)).length - 3) = fracT (fracF m) := by
  rw [magT_pos h0 h] at hl
  subst hl
  refine ⟨?_, ?_, ?_, ?_⟩
  · intro c hc
    simp only [List.mem_cons, List.mem_append] at hc
    rcases hc with rfl | rfl | rfl | hc | hc
    · decide
    · decide
    · decide
    · exact fracT_ascii _ c hc
    · exact expT_ascii _ c hc
  · obtain ⟨c, n, he, hc⟩ := expT_shape (expoF m)
    rw [he]
    have := fpm_app ([48, 120, 49] ++ fracT (fracF m)) c (Lib.decDigits n) (by
      intro x hx
      rcases List.mem_append.1 hx with hx | hx
      · simp only [List.mem_cons, List.not_mem_nil, or_false] at hx
        rcases hx with rfl | rfl | rfl <;> (unfold noPM; decide)
      · exact fracT_noPM _ x hx) hc
    rw [List.append_assoc, List.length_append] at this
    exact this
  · rw [Nat.add_comm]; simp
  · simp
theorem mag_zero_look : fpm [48, 120, 48] = -1 := by decide

set_option maxRecDepth 100000 in
set_option maxHeartbeats 1000000 in
theorem guessMag_tail (s : ByteArray) (w : World) (hT : Tabs w) (hs : s.size ≤ 140737488355328) (hi : s.data.toList ≠ [48, 120, 105, 110, 102]) (hn : s.data.toList ≠ nanT) :
    Calls Tryd.prog 30 #[.string s] w (GM s.data.toList w) := by
  have e1 : (s.toList == [48, 120, 105, 110, 102]) = false := by rw [Lib.toList_data, beq_eq_false_iff_ne]; exact hi
  have e2 : (s.toList == [48, 120, 110, 97, 110]) = false := by rw [Lib.toList_data, beq_eq_false_iff_ne]; exact hn
  have HI := Lib.hid hi
  have HN := Lib.hid hn
  have HX := Lib.hid (IndexAny_any s w hs)
  have HT := Lib.hid hT
  clear hT hi hn
  go_enter Tryd.func30, Tryd.ntmps30
  go_wp2_with fail
  refine HX.out.mono ?_
  rintro e w1 ⟨i, i0, i1, rfl, hix, hb1⟩
  have Hix := Lib.hid hix
  have Hb1 := Lib.hid hb1
  clear hix hb1
  by_cases h3 : i < 3
  · go_wp2
    go_ret
    refine ⟨0, by omega, rfl, fun m hm hl => ?_, fun h => absurd h HN.out, Hb1.out⟩
    rcases Nat.eq_zero_or_pos m with rfl | h0
    · rfl
    · by_cases hinf : m = 9218868437227405312
      · subst hinf; rw [magT_inf] at hl; exact absurd hl HI.out
      · obtain ⟨a, b, _⟩ := mag_look h0 (show m < 9218868437227405312 by omega) hl
        have := Hix.out a
        omega
  · obtain ⟨n, rfl⟩ := Int.eq_ofNat_of_zero_le (show 0 ≤ i by omega)
    have n3 : 3 ≤ n := by omega
    have n1 : n < s.size := by omega
    have HB0 : Hid (∀ W, Below w.heap.size w W → Below w.heap.size w W.drew) := Lib.hid fun W h => below_drewN h 1
    have hsl : s.data.toList.length = s.size := (Lib.size_eq s).symm
    have HGE : Hid (∀ W, Below w.heap.size w W → Calls Tryd.prog 42 #[.string (s.extract n s.size)] W (GE (s.data.toList.drop n) w)) := Lib.hid fun W hb => by
      have hd := List.drop_eq_getElem_cons (l := s.data.toList) (i := n) (by rw [hsl]; exact n1)
      have hx : s.extract n s.size = ⟨(s.data.toList.drop n).toArray⟩ := by
        have h := Lib.extract_to_end s n
        generalize s.extract n s.size = t at h
        obtain ⟨⟨m⟩⟩ := t
        simp only at h
        rw [h]
      have hlen : (s.data.toList.drop n).length ≤ s.size := by rw [List.length_drop, hsl]; omega
      rw [hx]
      rw [hd] at hlen ⊢
      refine (guessExponent_any _ _ W (HT.out.below hb (Nat.le_refl _)) (by rw [List.length_cons] at hlen; omega)).mono fun e w' ⟨x, a, b, c, d, e⟩ => ⟨x, a, b, c, d, hb.trans (e.mono hb.size)⟩
    have HGF : Hid (∀ W, Below w.heap.size w W → Calls Tryd.prog 43 #[.string (s.extract 3 n)] W (GF ((s.data.toList.drop 3).take (n - 3)) w)) := Lib.hid fun W hb => by
      have hx := Lib.extract_data s 3 n
      have hlen : (s.extract 3 n).size ≤ s.size := by
        rw [Lib.size_eq, hx, List.length_take, List.length_drop, hsl]; omega
      have h := guessFraction_any (s.extract 3 n) W (HT.out.below hb (Nat.le_refl _)) (by omega)
      rw [hx] at h
      exact h.mono fun e w' ⟨x, a, b, c, e⟩ => ⟨x, a, b, c, hb.trans (e.mono hb.size)⟩
    have HJ := Lib.hid fun (e : Int) (f : Nat) (w : World) h0 h1 hf => join_any e f w h0 h1 hf
    have hjb : Hid (∀ (x : Int) (f : Nat), -1074 ≤ x → x ≤ 1023 → f < 4503599627370496 → joinF x f ≤ 9221120237041090560) := Lib.hid fun x f h0 h1 hf => by
      unfold joinF
      split
      · exact Nat.le_trans (Nat.div_le_self _ _) (by omega)
      · have : (x + 1023).toNat ≤ 2046 := by omega
        omega
    have HFin : Hid (∀ (x : Int) (f : Nat) (w' : World), -1074 ≤ x → x ≤ 1023 → Hid (f < 4503599627370496) → Hid (∀ y : Int, -1074 ≤ y → y ≤ 1023 → s.data.toList.drop n = expT y → x = y) →
        Hid (∀ g, g < 4503599627370496 → (s.data.toList.drop 3).take (n - 3) = fracT g → f = g) → Below w.heap.size w w' → GM s.data.toList w (.returned (.int .u64 (joinF x f))) w') := Lib.hid fun x f w' h0 h1 hf hx hg hb => by
      refine ⟨joinF x f, hjb.out x f h0 h1 hf.out, rfl, fun m hm hl => ?_, fun h => absurd h HN.out, hb⟩
      rcases Nat.eq_zero_or_pos m with rfl | hm0
      · rw [magT_zero] at hl
        have := Hix.out (by rw [hl]; decide)
        rw [hl, mag_zero_look] at this; omega
      · by_cases hinf : m = 9218868437227405312
        · subst hinf; rw [magT_inf] at hl; exact absurd hl HI.out
        · have hm1 : m < 9218868437227405312 := by omega
          obtain ⟨a, b, c, d⟩ := mag_look hm0 hm1 hl
          have hn := Hix.out a
          rw [b] at hn
          have hn' : n = 3 + (fracT (fracF m)).length := by omega
          obtain ⟨q0, q1⟩ := expoF_bd hm0 hm1
          rw [← hn'] at c d
          rw [hx.out _ q0 q1 c, hg.out _ (fracF_lt m) d, join_split hm0 hm1]
    have n2 : n ≤ s.size := by omega
    clear h3 i0 i1 hsl
    go_wp2
    have hb1 := Hb1.out
    go_region_with (first
      | (go_at_call 42; refine (HGE.out _ (by first | assumption | exact HB0.out _ (by assumption))).mono ?_; rintro e w2 ⟨x, x0, x1, rfl, hx, hb2⟩; have Hx := Lib.hid hx; clear hx)
      | (go_at_call 43; refine (HGF.out _ (by first | assumption | exact HB0.out _ (by assumption))).mono ?_; rintro e w3 ⟨f, f0, rfl, hf, hb3⟩; have Hf := Lib.hid hf; have hf0 := Lib.hid f0; have hf1 : (f : Int) < 4503599627370496 := (by omega); clear hf f0)
      | (go_at_call 41; refine (HJ.out _ _ _ (by omega) (by omega) (by omega)).mono ?_; rintro e w4 ⟨rfl, rfl⟩))
    all_goals
      go_wp2
      go_ret
      exact HFin.out _ _ _ (by omega) (by omega) (by assumption) (by assumption) (by assumption) (by first | assumption | exact HB0.out _ (by assumption))
end Go.Proofs.YtdjjdhkpffjnfaaDoor
