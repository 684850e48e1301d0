/- Layer 5, the document's own answer: whole numbers written and read. -/
import Derived.Test.YtdjjdhkpffjnfaaDoorNumRef
namespace Go.Proofs.YtdjjdhkpffjnfaaDoor
open Go.RowKit
set_option linter.unusedVariables false

set_option maxRecDepth 100000 in
set_option maxHeartbeats 1000000 in
theorem refFormatInt (n : Int) (w : World) (h0 : -9223372036854775808 ≤ n) (h1 : n ≤ 9223372036854775807) :
    Calls Tryd.prog 14 #[.int .i64 n] w fun e w' => e = .returned (.string ⟨(Lib.itoa n).toArray⟩) ∧ Below w.heap.size w w' := by
  by_cases hn : n < 0
  · have HX := Lib.hid (itoa_neg hn)
    have e1 : IntKind.u64.wrap n = n + 18446744073709551616 := by rw [IntKind.wrap_u64]; omega
    have e2 : IntKind.u64.wrap (-(n + 18446744073709551616)) = (n.natAbs : Int) := by rw [IntKind.wrap_u64]; omega
    have HD := Lib.hid fun w => refDigits n.natAbs w (by omega)
    have hl := dd_len20 (n := n.natAbs) (by omega)
    obtain ⟨K, hK⟩ : ∃ K : Int, K = n + 18446744073709551616 := ⟨_, rfl⟩
    rw [← hK] at e1 e2
    obtain ⟨L, hL⟩ : ∃ L, L = Lib.decDigits n.natAbs := ⟨_, rfl⟩
    rw [← hL] at HX HD hl
    obtain ⟨A, hA⟩ : ∃ A : Int, A = (n.natAbs : Int) := ⟨_, rfl⟩
    rw [← hA] at e2 HD
    obtain ⟨S, hS⟩ : ∃ S : ByteArray, S = ⟨L.toArray⟩ := ⟨_, rfl⟩
    have hs : S.size ≤ 20 := by rw [hS, str_size]; exact hl
    have HS := Lib.hid hS
    rw [← hS] at HD
    obtain ⟨I, hI⟩ : ∃ I, I = Lib.itoa n := ⟨_, rfl⟩
    rw [← hI] at HX ⊢
    clear hK hL hA hS hl hI h0 h1
    go_enter Tryd.func14, Tryd.ntmps14
    go_wp2_with fail
    refine (HD.out _).mono ?_
    rintro e w' ⟨rfl, hb⟩
    go_wp2
    go_ret
    exact ⟨ret_str' (by rw [HX.out, HS.out]; exact app_str [45] L), hb⟩
  · have HX := Lib.hid (itoa_nn (n := n) (by omega))
    have e1 : IntKind.u64.wrap n = (n.toNat : Int) := by rw [IntKind.wrap_u64]; omega
    have HD := Lib.hid fun w => refDigits n.toNat w (by omega)
    obtain ⟨A, hA⟩ : ∃ A : Int, A = (n.toNat : Int) := ⟨_, rfl⟩
    rw [← hA] at e1 HD
    have hn' : 0 ≤ n := by omega
    have hAn : A = n := by omega
    subst hAn
    rw [← HX.out] at HD
    clear hA HX hn
    go_enter Tryd.func14, Tryd.ntmps14
    go_wp2_with fail
    refine (HD.out _).mono ?_
    rintro e w' ⟨rfl, hb⟩
    go_wp2
    go_ret
    exact ⟨rfl, hb⟩

theorem intForm_parts (l : List UInt8) : intForm l = true ↔ (cutNeg l ≠ [] ∧ (cutNeg l).all isDig = true ∧ ((cutNeg l)[0]? ≠ some 48 ∨ l.length ≤ 1)) := by
  unfold intForm
  simp only [Bool.or_eq_true, beq_iff_eq]
  constructor
  · rintro (rfl | h)
    · exact ⟨by decide, by decide, .inr (by decide)⟩
    · obtain ⟨h1, c, r, h2, h3⟩ := posForm_iff.1 h
      refine ⟨by rw [h2]; simp, h1, .inl ?_⟩
      rw [h2]
      intro he
      simp at he
      subst he
      exact h3 rfl
  · rintro ⟨h1, h2, h3⟩
    obtain ⟨c, r, hc⟩ := List.exists_cons_of_ne_nil h1
    by_cases h48 : c = 48
    · left
      rw [hc, h48] at h3
      have hl : l.length ≤ 1 := by
        rcases h3 with h | h
        · exact absurd rfl h
        · exact h
      have := cutNeg_len l
      rw [hc, List.length_cons] at this
      obtain rfl : r = [] := List.eq_nil_of_length_eq_zero (by omega)
      cases l with
      | nil => simp [cutNeg] at hc
      | cons d t =>
        obtain rfl : t = [] := by simpa using hl
        unfold cutNeg at hc
        simp only at hc
        split at hc
        · cases hc
        · rw [hc, h48]
    · right
      exact posForm_iff.2 ⟨h2, c, r, hc, fun h => h48 (UInt8.toNat_inj.1 (by rw [h]; rfl))⟩
theorem vald_lead {l : List UInt8} (h : posForm l = true) : 10 ^ (l.length - 1) ≤ vald 0 l := by
  obtain ⟨h1, c, r, rfl, h3⟩ := posForm_iff.1 h
  simp only [List.all_cons, Bool.and_eq_true] at h1
  have hc := of_decide_eq_true h1.1
  have := vald_big r (0 * 10 + (c.toNat - 48))
  rw [vald_cons, List.length_cons, Nat.add_sub_cancel]
  exact Nat.le_trans (Nat.le_mul_of_pos_left _ (by omega)) this
theorem intForm_pos {l : List UInt8} (h : intForm l = true) (hl : 1 < (cutNeg l).length) : posForm (cutNeg l) = true := by
  unfold intForm at h
  simp only [Bool.or_eq_true, beq_iff_eq] at h
  rcases h with rfl | h
  · exact absurd hl (by decide)
  · exact h
theorem parseI_long {l : List UInt8} (h : intForm l = true) (hl : 19 < (cutNeg l).length) : parseI l = (0, 51) := by
  have h1 := vald_lead (intForm_pos h (by omega))
  have h2 : 10 ^ 19 ≤ 10 ^ ((cutNeg l).length - 1) := Nat.pow_le_pow_right (by omega) (by omega)
  have h3 : 10 ^ 19 ≤ vald 0 (cutNeg l) := Nat.le_trans h2 h1
  unfold parseI
  rw [if_pos h]
  generalize vald 0 (cutNeg l) = V at h3
  split
  · rw [if_neg (by omega)]
  · rw [if_neg (by omega)]
theorem vald_take {l : List UInt8} {k : Nat} {c : UInt8} (h : l[k]? = some c) : vald 0 (l.take (k + 1)) = vald 0 (l.take k) * 10 + (c.toNat - 48) := by
  have hlt : k < l.length := by
    rcases Nat.lt_or_ge k l.length with h1 | h1
    · exact h1
    · rw [List.getElem?_eq_none h1] at h; cases h
  rw [List.take_succ_eq_append_getElem hlt, vald_snoc]
  rw [List.getElem?_eq_getElem hlt] at h
  injection h with h
  rw [h]
theorem vald_lt19 {l : List UInt8} (h : l.all isDig = true) (k : Nat) (hk : k ≤ 19) : vald 0 (l.take k) < 10000000000000000000 := by
  have h1 : (l.take k).all isDig = true := by
    have := List.take_append_drop k l
    rw [← this, List.all_append, Bool.and_eq_true] at h
    exact h.1
  have h2 := vald_lt _ 0 h1
  have h3 : 10 ^ (l.take k).length ≤ 10 ^ 19 := Nat.pow_le_pow_right (by omega) (Nat.le_trans (List.length_take_le _ _) hk)
  generalize 10 ^ (l.take k).length = q at h2 h3
  omega
theorem cutNeg_at {l : List UInt8} {f : Nat} (hf : f = if isNeg l then 1 else 0) : cutNeg l = l.drop f := by
  subst hf
  unfold cutNeg isNeg
  cases l with
  | nil => rfl
  | cons c r =>
    by_cases e : c.toNat = 45
    · simp [e]
    · simp [e]

/-- what ParseInt answers -/
def PI (l : List UInt8) (w : World) (e : Ending) (w' : World) : Prop := e = .returned (.tuple #[.int .i64 (parseI l).1, .int .i64 (parseI l).2]) ∧ w = w'
theorem pi_bad {l : List UInt8} {w : World} (h : ¬ intForm l = true) : PI l w (.returned (.tuple #[.int .i64 0, .int .i64 50])) w := by
  have : parseI l = (0, 50) := by unfold parseI; rw [if_neg h]
  unfold PI; rw [this]; exact ⟨rfl, rfl⟩
theorem pi_long {l : List UInt8} {w : World} (h : parseI l = (0, 51)) : PI l w (.returned (.tuple #[.int .i64 0, .int .i64 51])) w := by
  unfold PI; rw [h]; exact ⟨rfl, rfl⟩
theorem pi_ok {l : List UInt8} {w : World} {v : Int} (h : parseI l = (v, 0)) : PI l w (.returned (.tuple #[.int .i64 v, .int .i64 0])) w := by
  unfold PI; rw [h]; exact ⟨rfl, rfl⟩

set_option maxRecDepth 100000 in
set_option maxHeartbeats 2000000 in
theorem refParse0 (s : ByteArray) (w : World) (hs : s.size ≤ 140737488355328) (hneg : isNeg s.data.toList = false) :
    Calls Tryd.prog 16 #[.string s] w (PI s.data.toList w) := by
  have hsl : s.data.toList.length = s.size := (Lib.size_eq s).symm
  obtain ⟨l, hl⟩ : ∃ l, l = s.data.toList := ⟨_, rfl⟩
  have hcut := cutNeg_at (l := l) (f := 0) (by rw [hl, hneg]; rfl)
  have AT : Hid (∀ k (h : k < s.size), l[k]? = some s[k]) := Lib.hid fun k h => by rw [hl]; exact byte_at s k h
  rw [← hl] at hneg hsl ⊢
  have HN := Lib.hid hneg
  have HSL := Lib.hid hsl
  have HCUT := Lib.hid hcut
  have HP := Lib.hid (intForm_parts l)
  clear hl hcut hneg hsl
  by_cases h0 : 0 < s.size
  case neg =>
    have hbad : Hid (¬ intForm l = true) := Lib.hid fun h => (HP.out.1 h).1 (by rw [HCUT.out]; exact List.drop_eq_nil_of_le (by rw [HSL.out]; omega))
    have e1 : ((0 : Int) == (s.size : Int)) = true := by rw [beq_iff_eq]; omega
    have hz : (s.size : Int) ≤ 0 := by omega
    clear h0
    go_enter Tryd.func16, Tryd.ntmps16
    go_wp2
    go_ret2
    exact pi_bad hbad.out
  have e45 : ((s[0].toNat : Int) == 45) = false := by
    have h1 := HN.out
    have h2 := AT.out 0 h0
    unfold isNeg at h1
    cases hl : l with
    | nil => rw [hl] at h2; cases h2
    | cons c r =>
      rw [hl] at h1 h2
      simp at h2
      subst h2
      simp only [beq_eq_false_iff_ne] at h1 ⊢
      omega
  have e1 : ((0 : Int) == (s.size : Int)) = false := by rw [beq_eq_false_iff_ne]; omega
  have hF : 0 < s.size := h0
  by_cases hz : s[0].toNat = 48 ∧ 1 < s.size
  · obtain ⟨hz1, hz2⟩ := hz
    have hbad : Hid (¬ intForm l = true) := Lib.hid fun h => by
      rcases (HP.out.1 h).2.2 with h1 | h1
      · apply h1
        rw [HCUT.out, List.getElem?_drop, AT.out _ hF]
        congr 1
        exact UInt8.toNat_inj.1 (by rw [hz1]; rfl)
      · rw [HSL.out] at h1; omega
    have e48 : ((s[0].toNat : Int) == 48) = true := by rw [beq_iff_eq]; omega
    clear hz1
    go_enter Tryd.func16, Tryd.ntmps16
    go_wp2
    go_ret2
    exact pi_bad hbad.out
  have HZ : Hid (s.data.toList = s.data.toList ∧ ((cutNeg l)[0]? ≠ some 48 ∨ l.length ≤ 1)) := Lib.hid ⟨rfl, by
    rw [HCUT.out, List.getElem?_drop, AT.out _ hF, HSL.out]
    by_cases h : s[0].toNat = 48
    · right; omega
    · left; intro h2; injection h2 with h2; apply h; rw [h2]; rfl⟩
  have HNE : Hid (cutNeg l ≠ []) := Lib.hid (by
    rw [HCUT.out]
    intro h
    have := congrArg List.length h
    rw [List.length_drop, HSL.out, List.length_nil] at this
    omega)
  have hb0 := s[0].toNat_lt
  by_cases h48 : s[0].toNat = 48
  · have hs1 : s.size ≤ 1 := by omega
    have e48 : ((s[0].toNat : Int) == 48) = true := by rw [beq_iff_eq]; omega
    have hs1' : (s.size : Int) ≤ 1 := by omega
    clear h48 hz
    go_enter Tryd.func16, Tryd.ntmps16
    go_wp2
    go_loop [5] (fun i => ∃ k : Nat, 0 ≤ k ∧ k ≤ s.size ∧ i = .int .i64 k ∧ Hid (((cutNeg l).take (k - 0)).all isDig = true)) (fun i => s.size - (intOf i).toNat)
    case atStart => exact ⟨0, by omega, by omega, rfl, Lib.hid (by simp)⟩
    case round =>
      obtain ⟨k, hk1, hk, rfl, hall⟩ := hrel
      by_cases hlt : k < s.size
      · have hb := s[k].toNat_lt
        have hat : Hid ((cutNeg l)[k - 0]? = some s[k]) := Lib.hid (by rw [HCUT.out, List.getElem?_drop, show 0 + (k - 0) = k by omega]; exact AT.out k hlt)
        by_cases hd : 48 ≤ (s[k].toNat : Int) ∧ (s[k].toNat : Int) ≤ 57
        · obtain ⟨hd1, hd2⟩ := hd
          have HD : Hid (isDig s[k] = true) := Lib.hid (decide_eq_true (by omega))
          go_wp2
          go_round
          case rel =>
            refine ⟨k + 1, by omega, by omega, by go_num, Lib.hid ?_⟩
            have hq : k - 0 < (cutNeg l).length := by rw [HCUT.out, List.length_drop, HSL.out]; omega
            rw [show k + 1 - 0 = (k - 0) + 1 by omega, all_take hq, hall.out]
            have h2 := hat.out
            rw [List.getElem?_eq_getElem hq] at h2
            injection h2 with h2
            rw [h2]; exact HD.out
          case measure => simp [intOf]; omega
        · have hbad : Hid (¬ intForm l = true) := Lib.hid fun h => by
            have h2 := List.all_eq_true.1 (HP.out.1 h).2.1 _ (List.mem_of_getElem? hat.out)
            have := of_decide_eq_true h2
            omega
          by_cases h48 : (s[k].toNat : Int) < 48
          · clear hd
            go_wp2
            go_ret2
            exact pi_bad hbad.out
          · have h57 : 57 < (s[k].toNat : Int) := by omega
            have h48' : 48 ≤ (s[k].toNat : Int) := by omega
            clear hd h48
            go_wp2
            go_ret2
            exact pi_bad hbad.out
      · obtain rfl : s.size = k := by omega
        have HALL : Hid ((cutNeg l).all isDig = true) := Lib.hid (by
          have := hall.out
          rw [List.take_of_length_le (by rw [HCUT.out, List.length_drop, HSL.out]; omega)] at this
          exact this)
        have HF : Hid (intForm l = true) := Lib.hid (HP.out.2 ⟨HNE.out, HALL.out, HZ.out.2⟩)
        clear hlt hall
        by_cases h19 : 19 < (s.size : Int) - 0
        · have hL := Lib.hid (parseI_long HF.out (by rw [HCUT.out, List.length_drop, HSL.out]; omega))
          go_wp2
          all_goals go_ret2
          all_goals exact pi_long hL.out
        · have h19' : (s.size : Int) - 0 ≤ 19 := by omega
          clear h19
          go_wp2
          go_loop [6, 7] (fun v i => ∃ (k : Nat) (a : Int), 0 ≤ k ∧ k ≤ s.size ∧ i = .int .i64 k ∧ v = .int .u64 a ∧ 0 ≤ a ∧ a < 10000000000000000000 ∧ Hid (a = ((vald 0 ((cutNeg l).take (k - 0)) : Nat) : Int))) (fun _ i => s.size - (intOf i).toNat)
          case atStart => exact ⟨0, 0, by omega, by omega, rfl, rfl, by omega, by omega, Lib.hid (by simp [vald_nil])⟩
          case round =>
            obtain ⟨k, a, hk1, hk2, rfl, rfl, a0, a1, ha⟩ := hrel
            by_cases hlt : k < s.size
            · have hb := s[k].toNat_lt
              have hat : Hid ((cutNeg l)[k - 0]? = some s[k]) := Lib.hid (by rw [HCUT.out, List.getElem?_drop, show 0 + (k - 0) = k by omega]; exact AT.out k hlt)
              have hd := of_decide_eq_true (List.all_eq_true.1 HALL.out _ (List.mem_of_getElem? hat.out))
              have hd1 : 48 ≤ (s[k].toNat : Int) := by omega
              have hd2 : (s[k].toNat : Int) ≤ 57 := by omega
              have hnew : Hid (a * 10 + ((s[k].toNat : Int) - 48) = ((vald 0 ((cutNeg l).take (k + 1 - 0)) : Nat) : Int)) := Lib.hid (by
                rw [show k + 1 - 0 = (k - 0) + 1 by omega, vald_take hat.out, ha.out]; omega)
              have hlt19 := vald_lt19 HALL.out (k + 1 - 0) (by omega)
              have ha2 : a * 10 + ((s[k].toNat : Int) - 48) < 10000000000000000000 := by rw [hnew.out]; omega
              clear hd hlt19
              go_wp2
              go_round
              case rel => exact ⟨k + 1, _, by omega, by omega, by go_num, rfl, by omega, by omega, hnew⟩
              case measure => simp [intOf]; omega
            · obtain rfl : s.size = k := by omega
              have hval : Hid (a = ((vald 0 (cutNeg l) : Nat) : Int)) := Lib.hid (by
                have := ha.out
                rw [List.take_of_length_le (by rw [HCUT.out, List.length_drop, HSL.out]; omega)] at this
                exact this)
              clear hlt ha
              by_cases hbig : 9223372036854775808 ≤ a
              · have hR := Lib.hid (show parseI l = (0, 51) by unfold parseI; rw [if_pos HF.out, if_neg (by rw [HN.out]; simp), if_neg (by have := hval.out; omega)])
                go_wp2
                go_ret2
                exact pi_long hR.out
              · have hle : a < 9223372036854775808 := by omega
                have hR := Lib.hid (show parseI l = (a, 0) by unfold parseI; rw [if_pos HF.out, if_neg (by rw [HN.out]; simp), if_pos (by have := hval.out; omega), hval.out])
                clear hbig
                go_wp2
                go_ret2
                exact pi_ok hR.out
  · have e48 : ((s[0].toNat : Int) == 48) = false := by rw [beq_eq_false_iff_ne]; omega
    clear h48 hz
    go_enter Tryd.func16, Tryd.ntmps16
    go_wp2
    go_loop [5] (fun i => ∃ k : Nat, 0 ≤ k ∧ k ≤ s.size ∧ i = .int .i64 k ∧ Hid (((cutNeg l).take (k - 0)).all isDig = true)) (fun i => s.size - (intOf i).toNat)
    case atStart => exact ⟨0, by omega, by omega, rfl, Lib.hid (by simp)⟩
    case round =>
      obtain ⟨k, hk1, hk, rfl, hall⟩ := hrel
      by_cases hlt : k < s.size
      · have hb := s[k].toNat_lt
        have hat : Hid ((cutNeg l)[k - 0]? = some s[k]) := Lib.hid (by rw [HCUT.out, List.getElem?_drop, show 0 + (k - 0) = k by omega]; exact AT.out k hlt)
        by_cases hd : 48 ≤ (s[k].toNat : Int) ∧ (s[k].toNat : Int) ≤ 57
        · obtain ⟨hd1, hd2⟩ := hd
          have HD : Hid (isDig s[k] = true) := Lib.hid (decide_eq_true (by omega))
          go_wp2
          go_round
          case rel =>
            refine ⟨k + 1, by omega, by omega, by go_num, Lib.hid ?_⟩
            have hq : k - 0 < (cutNeg l).length := by rw [HCUT.out, List.length_drop, HSL.out]; omega
            rw [show k + 1 - 0 = (k - 0) + 1 by omega, all_take hq, hall.out]
            have h2 := hat.out
            rw [List.getElem?_eq_getElem hq] at h2
            injection h2 with h2
            rw [h2]; exact HD.out
          case measure => simp [intOf]; omega
        · have hbad : Hid (¬ intForm l = true) := Lib.hid fun h => by
            have h2 := List.all_eq_true.1 (HP.out.1 h).2.1 _ (List.mem_of_getElem? hat.out)
            have := of_decide_eq_true h2
            omega
          by_cases h48 : (s[k].toNat : Int) < 48
          · clear hd
            go_wp2
            go_ret2
            exact pi_bad hbad.out
          · have h57 : 57 < (s[k].toNat : Int) := by omega
            have h48' : 48 ≤ (s[k].toNat : Int) := by omega
            clear hd h48
            go_wp2
            go_ret2
            exact pi_bad hbad.out
      · obtain rfl : s.size = k := by omega
        have HALL : Hid ((cutNeg l).all isDig = true) := Lib.hid (by
          have := hall.out
          rw [List.take_of_length_le (by rw [HCUT.out, List.length_drop, HSL.out]; omega)] at this
          exact this)
        have HF : Hid (intForm l = true) := Lib.hid (HP.out.2 ⟨HNE.out, HALL.out, HZ.out.2⟩)
        clear hlt hall
        by_cases h19 : 19 < (s.size : Int) - 0
        · have hL := Lib.hid (parseI_long HF.out (by rw [HCUT.out, List.length_drop, HSL.out]; omega))
          go_wp2
          all_goals go_ret2
          all_goals exact pi_long hL.out
        · have h19' : (s.size : Int) - 0 ≤ 19 := by omega
          clear h19
          go_wp2
          go_loop [6, 7] (fun v i => ∃ (k : Nat) (a : Int), 0 ≤ k ∧ k ≤ s.size ∧ i = .int .i64 k ∧ v = .int .u64 a ∧ 0 ≤ a ∧ a < 10000000000000000000 ∧ Hid (a = ((vald 0 ((cutNeg l).take (k - 0)) : Nat) : Int))) (fun _ i => s.size - (intOf i).toNat)
          case atStart => exact ⟨0, 0, by omega, by omega, rfl, rfl, by omega, by omega, Lib.hid (by simp [vald_nil])⟩
          case round =>
            obtain ⟨k, a, hk1, hk2, rfl, rfl, a0, a1, ha⟩ := hrel
            by_cases hlt : k < s.size
            · have hb := s[k].toNat_lt
              have hat : Hid ((cutNeg l)[k - 0]? = some s[k]) := Lib.hid (by rw [HCUT.out, List.getElem?_drop, show 0 + (k - 0) = k by omega]; exact AT.out k hlt)
              have hd := of_decide_eq_true (List.all_eq_true.1 HALL.out _ (List.mem_of_getElem? hat.out))
              have hd1 : 48 ≤ (s[k].toNat : Int) := by omega
              have hd2 : (s[k].toNat : Int) ≤ 57 := by omega
              have hnew : Hid (a * 10 + ((s[k].toNat : Int) - 48) = ((vald 0 ((cutNeg l).take (k + 1 - 0)) : Nat) : Int)) := Lib.hid (by
                rw [show k + 1 - 0 = (k - 0) + 1 by omega, vald_take hat.out, ha.out]; omega)
              have hlt19 := vald_lt19 HALL.out (k + 1 - 0) (by omega)
              have ha2 : a * 10 + ((s[k].toNat : Int) - 48) < 10000000000000000000 := by rw [hnew.out]; omega
              clear hd hlt19
              go_wp2
              go_round
              case rel => exact ⟨k + 1, _, by omega, by omega, by go_num, rfl, by omega, by omega, hnew⟩
              case measure => simp [intOf]; omega
            · obtain rfl : s.size = k := by omega
              have hval : Hid (a = ((vald 0 (cutNeg l) : Nat) : Int)) := Lib.hid (by
                have := ha.out
                rw [List.take_of_length_le (by rw [HCUT.out, List.length_drop, HSL.out]; omega)] at this
                exact this)
              clear hlt ha
              by_cases hbig : 9223372036854775808 ≤ a
              · have hR := Lib.hid (show parseI l = (0, 51) by unfold parseI; rw [if_pos HF.out, if_neg (by rw [HN.out]; simp), if_neg (by have := hval.out; omega)])
                go_wp2
                go_ret2
                exact pi_long hR.out
              · have hle : a < 9223372036854775808 := by omega
                have hR := Lib.hid (show parseI l = (a, 0) by unfold parseI; rw [if_pos HF.out, if_neg (by rw [HN.out]; simp), if_pos (by have := hval.out; omega), hval.out])
                clear hbig
                go_wp2
                go_ret2
                exact pi_ok hR.out

set_option maxRecDepth 100000 in
set_option maxHeartbeats 2000000 in
theorem refParse1 (s : ByteArray) (w : World) (hs : s.size ≤ 140737488355328) (hneg : isNeg s.data.toList = true) :
    Calls Tryd.prog 16 #[.string s] w (PI s.data.toList w) := by
  have hsl : s.data.toList.length = s.size := (Lib.size_eq s).symm
  obtain ⟨l, hl⟩ : ∃ l, l = s.data.toList := ⟨_, rfl⟩
  have hcut := cutNeg_at (l := l) (f := 1) (by rw [hl, hneg]; rfl)
  have AT : Hid (∀ k (h : k < s.size), l[k]? = some s[k]) := Lib.hid fun k h => by rw [hl]; exact byte_at s k h
  rw [← hl] at hneg hsl ⊢
  have HN := Lib.hid hneg
  have HSL := Lib.hid hsl
  have HCUT := Lib.hid hcut
  have HP := Lib.hid (intForm_parts l)
  clear hl hcut hneg hsl
  have h0 : 0 < s.size := by
    have h1 := HN.out
    rcases Nat.eq_zero_or_pos s.size with h | h
    · have : l = [] := List.eq_nil_of_length_eq_zero (by rw [HSL.out, h])
      rw [this] at h1; cases h1
    · exact h
  have e45 : ((s[0].toNat : Int) == 45) = true := by
    have h1 := HN.out
    have h2 := AT.out 0 h0
    unfold isNeg at h1
    cases hl : l with
    | nil => rw [hl] at h1; cases h1
    | cons c r =>
      rw [hl] at h1 h2
      simp at h2
      subst h2
      simp only [beq_iff_eq] at h1 ⊢
      omega
  by_cases hlen : s.size = 1
  · have hbad : Hid (¬ intForm l = true) := Lib.hid fun h => (HP.out.1 h).1 (by rw [HCUT.out]; exact List.drop_eq_nil_of_le (by rw [HSL.out]; omega))
    have e1 : ((1 : Int) == (s.size : Int)) = true := by rw [beq_iff_eq]; omega
    clear hlen
    go_enter Tryd.func16, Tryd.ntmps16
    go_wp2
    go_ret2
    exact pi_bad hbad.out
  have e1 : ((1 : Int) == (s.size : Int)) = false := by rw [beq_eq_false_iff_ne]; omega
  have hF : 1 < s.size := by omega
  have hlong : 1 < s.size := hF
  by_cases hz : s[1].toNat = 48 ∧ 1 < s.size
  · obtain ⟨hz1, hz2⟩ := hz
    have hbad : Hid (¬ intForm l = true) := Lib.hid fun h => by
      rcases (HP.out.1 h).2.2 with h1 | h1
      · apply h1
        rw [HCUT.out, List.getElem?_drop, AT.out _ hF]
        congr 1
        exact UInt8.toNat_inj.1 (by rw [hz1]; rfl)
      · rw [HSL.out] at h1; omega
    have e48 : ((s[1].toNat : Int) == 48) = true := by rw [beq_iff_eq]; omega
    clear hz1
    go_enter Tryd.func16, Tryd.ntmps16
    go_wp2
    go_ret2
    exact pi_bad hbad.out
  have HZ : Hid (s.data.toList = s.data.toList ∧ ((cutNeg l)[0]? ≠ some 48 ∨ l.length ≤ 1)) := Lib.hid ⟨rfl, by
    rw [HCUT.out, List.getElem?_drop, AT.out _ hF, HSL.out]
    by_cases h : s[1].toNat = 48
    · right; omega
    · left; intro h2; injection h2 with h2; apply h; rw [h2]; rfl⟩
  have HNE : Hid (cutNeg l ≠ []) := Lib.hid (by
    rw [HCUT.out]
    intro h
    have := congrArg List.length h
    rw [List.length_drop, HSL.out, List.length_nil] at this
    omega)
  have hb0 := s[1].toNat_lt
  by_cases h48 : s[1].toNat = 48
  · exact absurd ⟨h48, hlong⟩ hz
  · have e48 : ((s[1].toNat : Int) == 48) = false := by rw [beq_eq_false_iff_ne]; omega
    clear h48 hz
    go_enter Tryd.func16, Tryd.ntmps16
    go_wp2
    go_loop [5] (fun i => ∃ k : Nat, 1 ≤ k ∧ k ≤ s.size ∧ i = .int .i64 k ∧ Hid (((cutNeg l).take (k - 1)).all isDig = true)) (fun i => s.size - (intOf i).toNat)
    case atStart => exact ⟨1, by omega, by omega, rfl, Lib.hid (by simp)⟩
    case round =>
      obtain ⟨k, hk1, hk, rfl, hall⟩ := hrel
      by_cases hlt : k < s.size
      · have hb := s[k].toNat_lt
        have hat : Hid ((cutNeg l)[k - 1]? = some s[k]) := Lib.hid (by rw [HCUT.out, List.getElem?_drop, show 1 + (k - 1) = k by omega]; exact AT.out k hlt)
        by_cases hd : 48 ≤ (s[k].toNat : Int) ∧ (s[k].toNat : Int) ≤ 57
        · obtain ⟨hd1, hd2⟩ := hd
          have HD : Hid (isDig s[k] = true) := Lib.hid (decide_eq_true (by omega))
          go_wp2
          go_round
          case rel =>
            refine ⟨k + 1, by omega, by omega, by go_num, Lib.hid ?_⟩
            have hq : k - 1 < (cutNeg l).length := by rw [HCUT.out, List.length_drop, HSL.out]; omega
            rw [show k + 1 - 1 = (k - 1) + 1 by omega, all_take hq, hall.out]
            have h2 := hat.out
            rw [List.getElem?_eq_getElem hq] at h2
            injection h2 with h2
            rw [h2]; exact HD.out
          case measure => simp [intOf]; omega
        · have hbad : Hid (¬ intForm l = true) := Lib.hid fun h => by
            have h2 := List.all_eq_true.1 (HP.out.1 h).2.1 _ (List.mem_of_getElem? hat.out)
            have := of_decide_eq_true h2
            omega
          by_cases h48 : (s[k].toNat : Int) < 48
          · clear hd
            go_wp2
            go_ret2
            exact pi_bad hbad.out
          · have h57 : 57 < (s[k].toNat : Int) := by omega
            have h48' : 48 ≤ (s[k].toNat : Int) := by omega
            clear hd h48
            go_wp2
            go_ret2
            exact pi_bad hbad.out
      · obtain rfl : s.size = k := by omega
        have HALL : Hid ((cutNeg l).all isDig = true) := Lib.hid (by
          have := hall.out
          rw [List.take_of_length_le (by rw [HCUT.out, List.length_drop, HSL.out]; omega)] at this
          exact this)
        have HF : Hid (intForm l = true) := Lib.hid (HP.out.2 ⟨HNE.out, HALL.out, HZ.out.2⟩)
        clear hlt hall
        by_cases h19 : 19 < (s.size : Int) - 1
        · have hL := Lib.hid (parseI_long HF.out (by rw [HCUT.out, List.length_drop, HSL.out]; omega))
          go_wp2
          all_goals go_ret2
          all_goals exact pi_long hL.out
        · have h19' : (s.size : Int) - 1 ≤ 19 := by omega
          clear h19
          go_wp2
          go_loop [6, 7] (fun v i => ∃ (k : Nat) (a : Int), 1 ≤ k ∧ k ≤ s.size ∧ i = .int .i64 k ∧ v = .int .u64 a ∧ 0 ≤ a ∧ a < 10000000000000000000 ∧ Hid (a = ((vald 0 ((cutNeg l).take (k - 1)) : Nat) : Int))) (fun _ i => s.size - (intOf i).toNat)
          case atStart => exact ⟨1, 0, by omega, by omega, rfl, rfl, by omega, by omega, Lib.hid (by simp [vald_nil])⟩
          case round =>
            obtain ⟨k, a, hk1, hk2, rfl, rfl, a0, a1, ha⟩ := hrel
            by_cases hlt : k < s.size
            · have hb := s[k].toNat_lt
              have hat : Hid ((cutNeg l)[k - 1]? = some s[k]) := Lib.hid (by rw [HCUT.out, List.getElem?_drop, show 1 + (k - 1) = k by omega]; exact AT.out k hlt)
              have hd := of_decide_eq_true (List.all_eq_true.1 HALL.out _ (List.mem_of_getElem? hat.out))
              have hd1 : 48 ≤ (s[k].toNat : Int) := by omega
              have hd2 : (s[k].toNat : Int) ≤ 57 := by omega
              have hnew : Hid (a * 10 + ((s[k].toNat : Int) - 48) = ((vald 0 ((cutNeg l).take (k + 1 - 1)) : Nat) : Int)) := Lib.hid (by
                rw [show k + 1 - 1 = (k - 1) + 1 by omega, vald_take hat.out, ha.out]; omega)
              have hlt19 := vald_lt19 HALL.out (k + 1 - 1) (by omega)
              have ha2 : a * 10 + ((s[k].toNat : Int) - 48) < 10000000000000000000 := by rw [hnew.out]; omega
              clear hd hlt19
              go_wp2
              go_round
              case rel => exact ⟨k + 1, _, by omega, by omega, by go_num, rfl, by omega, by omega, hnew⟩
              case measure => simp [intOf]; omega
            · obtain rfl : s.size = k := by omega
              have hval : Hid (a = ((vald 0 (cutNeg l) : Nat) : Int)) := Lib.hid (by
                have := ha.out
                rw [List.take_of_length_le (by rw [HCUT.out, List.length_drop, HSL.out]; omega)] at this
                exact this)
              clear hlt ha
              by_cases hbig : 9223372036854775808 < a
              · have hR := Lib.hid (show parseI l = (0, 51) by unfold parseI; rw [if_pos HF.out, if_pos HN.out, if_neg (by have := hval.out; omega)])
                go_wp2
                go_ret2
                exact pi_long hR.out
              · have hle : a ≤ 9223372036854775808 := by omega
                have hR := Lib.hid (show parseI l = (-a, 0) by unfold parseI; rw [if_pos HF.out, if_pos HN.out, if_pos (by have := hval.out; omega), hval.out])
                have w1 : IntKind.i64.wrap (IntKind.u64.wrap (-a)) = -a := by
                  rw [IntKind.wrap_u64]
                  simp only [IntKind.wrap, IntKind.bits, IntKind.signed]
                  simp
                  omega
                clear hbig
                go_wp2
                go_ret2
                exact pi_ok hR.out

theorem refParse_any (s : ByteArray) (w : World) (hs : s.size ≤ 140737488355328) :
    Calls Tryd.prog 16 #[.string s] w (PI s.data.toList w) := by
  cases h : isNeg s.data.toList with
  | true => exact refParse1 s w hs h
  | false => exact refParse0 s w hs h
end Go.Proofs.YtdjjdhkpffjnfaaDoor
