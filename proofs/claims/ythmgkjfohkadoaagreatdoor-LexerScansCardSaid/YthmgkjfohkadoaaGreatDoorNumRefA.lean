/- Layer 5, the document's own answer: digits, whole numbers. -/
import Derived.Test.YthmgkjfohkadoaaGreatDoorNumSpeak
import Derived.Laws.BytesArg
namespace Go.Proofs.YthmgkjfohkadoaaGreatDoor
open Go.RowKit
set_option linter.unusedVariables false

theorem nd_le : ∀ (k n : Nat), n < 10 ^ (k + 1) → Lib.nDigits n ≤ k + 1
  | 0, n, h => by rw [Lib.nDigits_small (by simpa using h)]; omega
  | k + 1, n, h => by
    by_cases h1 : n < 10
    · rw [Lib.nDigits_small h1]; omega
    · rw [Lib.nDigits_big h1]
      have := nd_le k (n / 10) (by rw [Nat.pow_succ] at h; omega)
      omega
theorem dd_len20 {n : Nat} (h : n < 18446744073709551616) : (Lib.decDigits n).length ≤ 20 := by
  rw [Lib.decDigits_length]; exact nd_le 19 n (by omega)

/-- one byte, made a string -/
theorem one_str (w : World) (d : Int) : (convert 56 9 (.slice (some ⟨w.heap.size, 0, none⟩) 1 1)).run Tryz.prog (w.alloc (.cells #[.int .u8 d] 5)) = .ok (.string ⟨#[UInt8.ofNat d.toNat]⟩) (w.alloc (.cells #[.int .u8 d] 5)) := by
  have := run_convert_bytes_arg (P := Tryz.prog) (w.alloc (.cells #[.int .u8 d] 5)) 56 5 Tryz.underlying56 Tryz.underlying5 w.heap.size 0 1 1 [d] rfl (fun i hi => by
    obtain rfl : i = 0 := by omega
    rw [(Blk.new w 5 #[.int .u8 d]).cell]; rfl) 9 Tryz.underlying9
  exact this

set_option maxRecDepth 100000 in
set_option maxHeartbeats 1000000 in
theorem refDigits (n : Nat) (w : World) (h : n < 18446744073709551616) :
    Calls Tryz.prog 76 #[.int .u64 n] w fun e w' => e = .returned (.string ⟨(Lib.decDigits n).toArray⟩) ∧ Below w.heap.size w w' := by
  have hi : (n : Int) < 18446744073709551616 := by omega
  have hlen := dd_len20 h
  obtain ⟨L, hL⟩ : ∃ L, L = Lib.decDigits n := ⟨_, rfl⟩
  rw [← hL] at hlen ⊢
  have HL := Lib.hid hL
  clear hL h
  go_enter Tryz.func76, Tryz.ntmps76
  go_wp2
  go_loopw [0, 3] (fun u s wr => ∃ (m : Nat) (S : ByteArray), u = .int .u64 (m : Int) ∧ s = .string S ∧ (m : Int) < 18446744073709551616 ∧ S.size ≤ 20 ∧ Hid (∃ l, S = ⟨l.toArray⟩ ∧ Lib.decDigits m ++ l = L) ∧ Below w.heap.size w wr) (fun u _ _ => (intOf u).toNat)
  case atStart => exact ⟨n, ⟨#[]⟩, rfl, rfl, hi, by decide, Lib.hid ⟨[], rfl, by rw [HL.out]; simp⟩, Below.refl _ _⟩
  case round =>
    obtain ⟨m, S, rfl, rfl, hm, hS, hl, hb⟩ := hrel
    by_cases h10 : (10 : Int) ≤ (m : Int)
    · have hcv := one_str wr (48 + (m : Int) % 10)
      obtain ⟨c, hc⟩ : ∃ c, c = UInt8.ofNat (48 + (m : Int) % 10).toNat := ⟨_, rfl⟩
      rw [← hc] at hcv
      have hnx : Hid (∃ l, (⟨#[c]⟩ ++ S : ByteArray) = ⟨l.toArray⟩ ∧ Lib.decDigits (m / 10) ++ l = L) := Lib.hid (by
        obtain ⟨l, e1, e2⟩ := hl.out
        refine ⟨c :: l, by rw [e1]; exact app_str [_] l, ?_⟩
        rw [← e2, dd_big (n := m) (by omega), List.append_assoc, hc, show (48 + (m : Int) % 10).toNat = 48 + m % 10 by omega]
        rfl)
      have hsz : Hid ((⟨#[c]⟩ ++ S : ByteArray).size ≤ 20) := Lib.hid (by
        obtain ⟨l, e1, e2⟩ := hnx.out
        rw [e1, str_size]
        have := congrArg List.length e2
        rw [List.length_append] at this; omega)
      clear hc
      go_wp2
      go_roundw
      case rel => exact ⟨m / 10, _, by go_num, rfl, by omega, hsz.out, hnx, hb.alloc hb.size _⟩
      case measure => simp [intOf]; omega
    · have h10' : (m : Int) < 10 := by omega
      have hcv := one_str wr (48 + (m : Int))
      obtain ⟨c, hc⟩ : ∃ c, c = UInt8.ofNat (48 + (m : Int)).toNat := ⟨_, rfl⟩
      rw [← hc] at hcv
      have hfin : Hid ((⟨#[c]⟩ ++ S : ByteArray) = ⟨L.toArray⟩) := Lib.hid (by
        obtain ⟨l, e1, e2⟩ := hl.out
        rw [← e2, dd_small (n := m) (by omega), e1, hc, show (48 + (m : Int)).toNat = 48 + m by omega]
        exact app_str [_] l)
      have hm0 : (0 : Int) ≤ (m : Int) := by omega
      clear h10 hc hm hi
      go_wp2
      go_ret
      exact ⟨ret_str' hfin.out, hb.alloc hb.size _⟩
end Go.Proofs.YthmgkjfohkadoaaGreatDoor

/- Layer 5, the document's own answer: whole numbers written and read. -/
namespace Go.Proofs.YthmgkjfohkadoaaGreatDoor
open Go.RowKit
set_option linter.unusedVariables false

theorem intForm_parts (l : List UInt8) : intForm l = true ↔ (cutNeg l ≠ [] ∧ (cutNeg l).all isDig = true ∧ ((cutNeg l)[0]? ≠ some 48 ∨ l.length ≤ 1)) := by
  unfold intForm
  simp only [Bool.or_eq_true, beq_iff_eq]
  constructor
  · rintro (rfl | h)
    · exact ⟨by decide, by decide, .inr (by decide)⟩
    · obtain ⟨h1, c, r, h2, h3⟩ := posForm_iff.1 h
      refine ⟨by rw [h2]; simp, h1, .inl ?_⟩
      rw [h2]
      intro he
      simp at he
      subst he
      exact h3 rfl
  · rintro ⟨h1, h2, h3⟩
    obtain ⟨c, r, hc⟩ := List.exists_cons_of_ne_nil h1
    by_cases h48 : c = 48
    · left
      rw [hc, h48] at h3
      have hl : l.length ≤ 1 := by
        rcases h3 with h | h
        · exact absurd rfl h
        · exact h
      have := cutNeg_len l
      rw [hc, List.length_cons] at this
      obtain rfl : r = [] := List.eq_nil_of_length_eq_zero (by omega)
      cases l with
      | nil => simp [cutNeg] at hc
      | cons d t =>
        obtain rfl : t = [] := by simpa using hl
        unfold cutNeg at hc
        simp only at hc
        split at hc
        · cases hc
        · rw [hc, h48]
    · right
      exact posForm_iff.2 ⟨h2, c, r, hc, fun h => h48 (UInt8.toNat_inj.1 (by rw [h]; rfl))⟩
theorem vald_lead {l : List UInt8} (h : posForm l = true) : 10 ^ (l.length - 1) ≤ vald 0 l := by
  obtain ⟨h1, c, r, rfl, h3⟩ := posForm_iff.1 h
  simp only [List.all_cons, Bool.and_eq_true] at h1
  have hc := of_decide_eq_true h1.1
  have := vald_big r (0 * 10 + (c.toNat - 48))
  rw [vald_cons, List.length_cons, Nat.add_sub_cancel]
  exact Nat.le_trans (Nat.le_mul_of_pos_left _ (by omega)) this
theorem intForm_pos {l : List UInt8} (h : intForm l = true) (hl : 1 < (cutNeg l).length) : posForm (cutNeg l) = true := by
  unfold intForm at h
  simp only [Bool.or_eq_true, beq_iff_eq] at h
  rcases h with rfl | h
  · exact absurd hl (by decide)
  · exact h
theorem parseI_long {l : List UInt8} (h : intForm l = true) (hl : 19 < (cutNeg l).length) : parseI l = (0, 51) := by
  have h1 := vald_lead (intForm_pos h (by omega))
  have h2 : 10 ^ 19 ≤ 10 ^ ((cutNeg l).length - 1) := Nat.pow_le_pow_right (by omega) (by omega)
  have h3 : 10 ^ 19 ≤ vald 0 (cutNeg l) := Nat.le_trans h2 h1
  unfold parseI
  rw [if_pos h]
  generalize vald 0 (cutNeg l) = V at h3
  split
  · rw [if_neg (by omega)]
  · rw [if_neg (by omega)]
theorem vald_take {l : List UInt8} {k : Nat} {c : UInt8} (h : l[k]? = some c) : vald 0 (l.take (k + 1)) = vald 0 (l.take k) * 10 + (c.toNat - 48) := by
  have hlt : k < l.length := by
    rcases Nat.lt_or_ge k l.length with h1 | h1
    · exact h1
    · rw [List.getElem?_eq_none h1] at h; cases h
  rw [List.take_succ_eq_append_getElem hlt, vald_snoc]
  rw [List.getElem?_eq_getElem hlt] at h
  injection h with h
  rw [h]
theorem vald_lt19 {l : List UInt8} (h : l.all isDig = true) (k : Nat) (hk : k ≤ 19) : vald 0 (l.take k) < 10000000000000000000 := by
  have h1 : (l.take k).all isDig = true := by
    have := List.take_append_drop k l
    rw [← this, List.all_append, Bool.and_eq_true] at h
    exact h.1
  have h2 := vald_lt _ 0 h1
  have h3 : 10 ^ (l.take k).length ≤ 10 ^ 19 := Nat.pow_le_pow_right (by omega) (Nat.le_trans (List.length_take_le _ _) hk)
  generalize 10 ^ (l.take k).length = q at h2 h3
  omega
theorem cutNeg_at {l : List UInt8} {f : Nat} (hf : f = if isNeg l then 1 else 0) : cutNeg l = l.drop f := by
  subst hf
  unfold cutNeg isNeg
  cases l with
  | nil => rfl
  | cons c r =>
    by_cases e : c.toNat = 45
    · simp [e]
    · simp [e]

/-- what ParseInt answers -/
def PI (l : List UInt8) (w : World) (e : Ending) (w' : World) : Prop := e = .returned (.tuple #[.int .i64 (parseI l).1, .int .i64 (parseI l).2]) ∧ w = w'
theorem pi_bad {l : List UInt8} {w : World} (h : ¬ intForm l = true) : PI l w (.returned (.tuple #[.int .i64 0, .int .i64 50])) w := by
  have : parseI l = (0, 50) := by unfold parseI; rw [if_neg h]
  unfold PI; rw [this]; exact ⟨rfl, rfl⟩
theorem pi_long {l : List UInt8} {w : World} (h : parseI l = (0, 51)) : PI l w (.returned (.tuple #[.int .i64 0, .int .i64 51])) w := by
  unfold PI; rw [h]; exact ⟨rfl, rfl⟩
theorem pi_ok {l : List UInt8} {w : World} {v : Int} (h : parseI l = (v, 0)) : PI l w (.returned (.tuple #[.int .i64 v, .int .i64 0])) w := by
  unfold PI; rw [h]; exact ⟨rfl, rfl⟩

set_option maxRecDepth 100000 in
set_option maxHeartbeats 2000000 in
theorem refParse0 (s : ByteArray) (w : World) (hs : s.size ≤ 140737488355328) (hneg : isNeg s.data.toList = false) :
    Calls Tryz.prog 50 #[.string s] w (PI s.data.toList w) := by
  have hsl : s.data.toList.length = s.size := (Lib.size_eq s).symm
  obtain ⟨l, hl⟩ : ∃ l, l = s.data.toList := ⟨_, rfl⟩
  have hcut := cutNeg_at (l := l) (f := 0) (by rw [hl, hneg]; rfl)
  have AT : Hid (∀ k (h : k < s.size), l[k]? = some s[k]) := Lib.hid fun k h => by rw [hl]; exact byte_at s k h
  rw [← hl] at hneg hsl ⊢
  have HN := Lib.hid hneg
  have HSL := Lib.hid hsl
  have HCUT := Lib.hid hcut
  have HP := Lib.hid (intForm_parts l)
  clear hl hcut hneg hsl
  by_cases h0 : 0 < s.size
  case neg =>
    have hbad : Hid (¬ intForm l = true) := Lib.hid fun h => (HP.out.1 h).1 (by rw [HCUT.out]; exact List.drop_eq_nil_of_le (by rw [HSL.out]; omega))
    have e1 : ((0 : Int) == (s.size : Int)) = true := by rw [beq_iff_eq]; omega
    have hz : (s.size : Int) ≤ 0 := by omega
    clear h0
    go_enter Tryz.func50, Tryz.ntmps50
    go_wp2
    go_ret2
    exact pi_bad hbad.out
  have e45 : ((s[0].toNat : Int) == 45) = false := by
    have h1 := HN.out
    have h2 := AT.out 0 h0
    unfold isNeg at h1
    cases hl : l with
    | nil => rw [hl] at h2; cases h2
    | cons c r =>
      rw [hl] at h1 h2
      simp at h2
      subst h2
      simp only [beq_eq_false_iff_ne] at h1 ⊢
      omega
  have e1 : ((0 : Int) == (s.size : Int)) = false := by rw [beq_eq_false_iff_ne]; omega
  have hF : 0 < s.size := h0
  by_cases hz : s[0].toNat = 48 ∧ 1 < s.size
  · obtain ⟨hz1, hz2⟩ := hz
    have hbad : Hid (¬ intForm l = true) := Lib.hid fun h => by
      rcases (HP.out.1 h).2.2 with h1 | h1
      · apply h1
        rw [HCUT.out, List.getElem?_drop, AT.out _ hF]
        congr 1
        exact UInt8.toNat_inj.1 (by rw [hz1]; rfl)
      · rw [HSL.out] at h1; omega
    have e48 : ((s[0].toNat : Int) == 48) = true := by rw [beq_iff_eq]; omega
    clear hz1
    go_enter Tryz.func50, Tryz.ntmps50
    go_wp2
    go_ret2
    exact pi_bad hbad.out
  have HZ : Hid (s.data.toList = s.data.toList ∧ ((cutNeg l)[0]? ≠ some 48 ∨ l.length ≤ 1)) := Lib.hid ⟨rfl, by
    rw [HCUT.out, List.getElem?_drop, AT.out _ hF, HSL.out]
    by_cases h : s[0].toNat = 48
    · right; omega
    · left; intro h2; injection h2 with h2; apply h; rw [h2]; rfl⟩
  have HNE : Hid (cutNeg l ≠ []) := Lib.hid (by
    rw [HCUT.out]
    intro h
    have := congrArg List.length h
    rw [List.length_drop, HSL.out, List.length_nil] at this
    omega)
  have hb0 := s[0].toNat_lt
  by_cases h48 : s[0].toNat = 48
  · have hs1 : s.size ≤ 1 := by omega
    have e48 : ((s[0].toNat : Int) == 48) = true := by rw [beq_iff_eq]; omega
    have hs1' : (s.size : Int) ≤ 1 := by omega
    clear h48 hz
    go_enter Tryz.func50, Tryz.ntmps50
    go_wp2
    go_loop [5] (fun i => ∃ k : Nat, 0 ≤ k ∧ k ≤ s.size ∧ i = .int .i64 k ∧ Hid (((cutNeg l).take (k - 0)).all isDig = true)) (fun i => s.size - (intOf i).toNat)
    case atStart => exact ⟨0, by omega, by omega, rfl, Lib.hid (by simp)⟩
    case round =>
      obtain ⟨k, hk1, hk, rfl, hall⟩ := hrel
      by_cases hlt : k < s.size
      · have hb := s[k].toNat_lt
        have hat : Hid ((cutNeg l)[k - 0]? = some s[k]) := Lib.hid (by rw [HCUT.out, List.getElem?_drop, show 0 + (k - 0) = k by omega]; exact AT.out k hlt)
        by_cases hd : 48 ≤ (s[k].toNat : Int) ∧ (s[k].toNat : Int) ≤ 57
        · obtain ⟨hd1, hd2⟩ := hd
          have HD : Hid (isDig s[k] = true) := Lib.hid (decide_eq_true (by omega))
          go_wp2
          go_round
          case rel =>
            refine ⟨k + 1, by omega, by omega, by go_num, Lib.hid ?_⟩
            have hq : k - 0 < (cutNeg l).length := by rw [HCUT.out, List.length_drop, HSL.out]; omega
            rw [show k + 1 - 0 = (k - 0) + 1 by omega, all_take hq, hall.out]
            have h2 := hat.out
            rw [List.getElem?_eq_getElem hq] at h2
            injection h2 with h2
            rw [h2]; exact HD.out
          case measure => simp [intOf]; omega
        · have hbad : Hid (¬ intForm l = true) := Lib.hid fun h => by
            have h2 := List.all_eq_true.1 (HP.out.1 h).2.1 _ (List.mem_of_getElem? hat.out)
            have := of_decide_eq_true h2
            omega
          by_cases h48 : (s[k].toNat : Int) < 48
          · clear hd
            go_wp2
            go_ret2
            exact pi_bad hbad.out
          · have h57 : 57 < (s[k].toNat : Int) := by omega
            have h48' : 48 ≤ (s[k].toNat : Int) := by omega
            clear hd h48
            go_wp2
            go_ret2
            exact pi_bad hbad.out
      · obtain rfl : s.size = k := by omega
        have HALL : Hid ((cutNeg l).all isDig = true) := Lib.hid (by
          have := hall.out
          rw [List.take_of_length_le (by rw [HCUT.out, List.length_drop, HSL.out]; omega)] at this
          exact this)
        have HF : Hid (intForm l = true) := Lib.hid (HP.out.2 ⟨HNE.out, HALL.out, HZ.out.2⟩)
        clear hlt hall
        by_cases h19 : 19 < (s.size : Int) - 0
        · have hL := Lib.hid (parseI_long HF.out (by rw [HCUT.out, List.length_drop, HSL.out]; omega))
          go_wp2
          all_goals go_ret2
          all_goals exact pi_long hL.out
        · have h19' : (s.size : Int) - 0 ≤ 19 := by omega
          clear h19
          go_wp2
          go_loop [6, 7] (fun v i => ∃ (k : Nat) (a : Int), 0 ≤ k ∧ k ≤ s.size ∧ i = .int .i64 k ∧ v = .int .u64 a ∧ 0 ≤ a ∧ a < 10000000000000000000 ∧ Hid (a = ((vald 0 ((cutNeg l).take (k - 0)) : Nat) : Int))) (fun _ i => s.size - (intOf i).toNat)
          case atStart => exact ⟨0, 0, by omega, by omega, rfl, rfl, by omega, by omega, Lib.hid (by simp [vald_nil])⟩
          case round =>
            obtain ⟨k, a, hk1, hk2, rfl, rfl, a0, a1, ha⟩ := hrel
            by_cases hlt : k < s.size
            · have hb := s[k].toNat_lt
              have hat : Hid ((cutNeg l)[k - 0]? = some s[k]) := Lib.hid (by rw [HCUT.out, List.getElem?_drop, show 0 + (k - 0) = k by omega]; exact AT.out k hlt)
              have hd := of_decide_eq_true (List.all_eq_true.1 HALL.out _ (List.mem_of_getElem? hat.out))
              have hd1 : 48 ≤ (s[k].toNat : Int) := by omega
              have hd2 : (s[k].toNat : Int) ≤ 57 := by omega
              have hnew : Hid (a * 10 + ((s[k].toNat : Int) - 48) = ((vald 0 ((cutNeg l).take (k + 1 - 0)) : Nat) : Int)) := Lib.hid (by
                rw [show k + 1 - 0 = (k - 0) + 1 by omega, vald_take hat.out, ha.out]; omega)
              have hlt19 := vald_lt19 HALL.out (k + 1 - 0) (by omega)
              have ha2 : a * 10 + ((s[k].toNat : Int) - 48) < 10000000000000000000 := by rw [hnew.out]; omega
              clear hd hlt19
              go_wp2
              go_round
              case rel => exact ⟨k + 1, _, by omega, by omega, by go_num, rfl, by omega, by omega, hnew⟩
              case measure => simp [intOf]; omega
            · obtain rfl : s.size = k := by omega
              have hval : Hid (a = ((vald 0 (cutNeg l) : Nat) : Int)) := Lib.hid (by
                have := ha.out
                rw [List.take_of_length_le (by rw [HCUT.out, List.length_drop, HSL.out]; omega)] at this
                exact this)
              clear hlt ha
              by_cases hbig : 9223372036854775808 ≤ a
              · have hR := Lib.hid (show parseI l = (0, 51) by unfold parseI; rw [if_pos HF.out, if_neg (by rw [HN.out]; simp), if_neg (by have := hval.out; omega)])
                go_wp2
                go_ret2
                exact pi_long hR.out
              · have hle : a < 9223372036854775808 := by omega
                have hR := Lib.hid (show parseI l = (a, 0) by unfold parseI; rw [if_pos HF.out, if_neg (by rw [HN.out]; simp), if_pos (by have := hval.out; omega), hval.out])
                clear hbig
                go_wp2
                go_ret2
                exact pi_ok hR.out
  · have e48 : ((s[0].toNat : Int) == 48) = false := by rw [beq_eq_false_iff_ne]; omega
    clear h48 hz
    go_enter Tryz.func50, Tryz.ntmps50
    go_wp2
    go_loop [5] (fun i => ∃ k : Nat, 0 ≤ k ∧ k ≤ s.size ∧ i = .int .i64 k ∧ Hid (((cutNeg l).take (k - 0)).all isDig = true)) (fun i => s.size - (intOf i).toNat)
    case atStart => exact ⟨0, by omega, by omega, rfl, Lib.hid (by simp)⟩
    case round =>
      obtain ⟨k, hk1, hk, rfl, hall⟩ := hrel
      by_cases hlt : k < s.size
      · have hb := s[k].toNat_lt
        have hat : Hid ((cutNeg l)[k - 0]? = some s[k]) := Lib.hid (by rw [HCUT.out, List.getElem?_drop, show 0 + (k - 0) = k by omega]; exact AT.out k hlt)
        by_cases hd : 48 ≤ (s[k].toNat : Int) ∧ (s[k].toNat : Int) ≤ 57
        · obtain ⟨hd1, hd2⟩ := hd
          have HD : Hid (isDig s[k] = true) := Lib.hid (decide_eq_true (by omega))
          go_wp2
          go_round
          case rel =>
            refine ⟨k + 1, by omega, by omega, by go_num, Lib.hid ?_⟩
            have hq : k - 0 < (cutNeg l).length := by rw [HCUT.out, List.length_drop, HSL.out]; omega
            rw [show k + 1 - 0 = (k - 0) + 1 by omega, all_take hq, hall.out]
            have h2 := hat.out
            rw [List.getElem?_eq_getElem hq] at h2
            injection h2 with h2
            rw [h2]; exact HD.out
          case measure => simp [intOf]; omega
        · have hbad : Hid (¬ intForm l = true) := Lib.hid fun h => by
            have h2 := List.all_eq_true.1 (HP.out.1 h).2.1 _ (List.mem_of_getElem? hat.out)
            have := of_decide_eq_true h2
            omega
          by_cases h48 : (s[k].toNat : Int) < 48
          · clear hd
            go_wp2
            go_ret2
            exact pi_bad hbad.out
          · have h57 : 57 < (s[k].toNat : Int) := by omega
            have h48' : 48 ≤ (s[k].toNat : Int) := by omega
            clear hd h48
            go_wp2
            go_ret2
            exact pi_bad hbad.out
      · obtain rfl : s.size = k := by omega
        have HALL : Hid ((cutNeg l).all isDig = true) := Lib.hid (by
          have := hall.out
          rw [List.take_of_length_le (by rw [HCUT.out, List.length_drop, HSL.out]; omega)] at this
          exact this)
        have HF : Hid (intForm l = true) := Lib.hid (HP.out.2 ⟨HNE.out, HALL.out, HZ.out.2⟩)
        clear hlt hall
        by_cases h19 : 19 < (s.size : Int) - 0
        · have hL := Lib.hid (parseI_long HF.out (by rw [HCUT.out, List.length_drop, HSL.out]; omega))
          go_wp2
          all_goals go_ret2
          all_goals exact pi_long hL.out
        · have h19' : (s.size : Int) - 0 ≤ 19 := by omega
          clear h19
          go_wp2
          go_loop [6, 7] (fun v i => ∃ (k : Nat) (a : Int), 0 ≤ k ∧ k ≤ s.size ∧ i = .int .i64 k ∧ v = .int .u64 a ∧ 0 ≤ a ∧ a < 10000000000000000000 ∧ Hid (a = ((vald 0 ((cutNeg l).take (k - 0)) : Nat) : Int))) (fun _ i => s.size - (intOf i).toNat)
          case atStart => exact ⟨0, 0, by omega, by omega, rfl, rfl, by omega, by omega, Lib.hid (by simp [vald_nil])⟩
          case round =>
            obtain ⟨k, a, hk1, hk2, rfl, rfl, a0, a1, ha⟩ := hrel
            by_cases hlt : k < s.size
            · have hb := s[k].toNat_lt
              have hat : Hid ((cutNeg l)[k - 0]? = some s[k]) := Lib.hid (by rw [HCUT.out, List.getElem?_drop, show 0 + (k - 0) = k by omega]; exact AT.out k hlt)
              have hd := of_decide_eq_true (List.all_eq_true.1 HALL.out _ (List.mem_of_getElem? hat.out))
              have hd1 : 48 ≤ (s[k].toNat : Int) := by omega
              have hd2 : (s[k].toNat : Int) ≤ 57 := by omega
              have hnew : Hid (a * 10 + ((s[k].toNat : Int) - 48) = ((vald 0 ((cutNeg l).take (k + 1 - 0)) : Nat) : Int)) := Lib.hid (by
                rw [show k + 1 - 0 = (k - 0) + 1 by omega, vald_take hat.out, ha.out]; omega)
              have hlt19 := vald_lt19 HALL.out (k + 1 - 0) (by omega)
              have ha2 : a * 10 + ((s[k].toNat : Int) - 48) < 10000000000000000000 := by rw [hnew.out]; omega
              clear hd hlt19
              go_wp2
              go_round
              case rel => exact ⟨k + 1, _, by omega, by omega, by go_num, rfl, by omega, by omega, hnew⟩
              case measure => simp [intOf]; omega
            · obtain rfl : s.size = k := by omega
              have hval : Hid (a = ((vald 0 (cutNeg l) : Nat) : Int)) := Lib.hid (by
                have := ha.out
                rw [List.take_of_length_le (by rw [HCUT.out, List.length_drop, HSL.out]; omega)] at this
                exact this)
              clear hlt ha
              by_cases hbig : 9223372036854775808 ≤ a
              · have hR := Lib.hid (show parseI l = (0, 51) by unfold parseI; rw [if_pos HF.out, if_neg (by rw [HN.out]; simp), if_neg (by have := hval.out; omega)])
                go_wp2
                go_ret2
                exact pi_long hR.out
              · have hle : a < 9223372036854775808 := by omega
                have hR := Lib.hid (show parseI l = (a, 0) by unfold parseI; rw [if_pos HF.out, if_neg (by rw [HN.out]; simp), if_pos (by have := hval.out; omega), hval.out])
                clear hbig
                go_wp2
                go_ret2
                exact pi_ok hR.out

set_option maxRecDepth 100000 in
set_option maxHeartbeats 2000000 in
theorem refParse1 (s : ByteArray) (w : World) (hs : s.size ≤ 140737488355328) (hneg : isNeg s.data.toList = true) :
    Calls Tryz.prog 50 #[.string s] w (PI s.data.toList w) := by
  have hsl : s.data.toList.length = s.size := (Lib.size_eq s).symm
  obtain ⟨l, hl⟩ : ∃ l, l = s.data.toList := ⟨_, rfl⟩
  have hcut := cutNeg_at (l := l) (f := 1) (by rw [hl, hneg]; rfl)
  have AT : Hid (∀ k (h : k < s.size), l[k]? = some s[k]) := Lib.hid fun k h => by rw [hl]; exact byte_at s k h
  rw [← hl] at hneg hsl ⊢
  have HN := Lib.hid hneg
  have HSL := Lib.hid hsl
  have HCUT := Lib.hid hcut
  have HP := Lib.hid (intForm_parts l)
  clear hl hcut hneg hsl
  have h0 : 0 < s.size := by
    have h1 := HN.out
    rcases Nat.eq_zero_or_pos s.size with h | h
    · have : l = [] := List.eq_nil_of_length_eq_zero (by rw [HSL.out, h])
      rw [this] at h1; cases h1
    · exact h
  have e45 : ((s[0].toNat : Int) == 45) = true := by
    have h1 := HN.out
    have h2 := AT.out 0 h0
    unfold isNeg at h1
    cases hl : l with
    | nil => rw [hl] at h1; cases h1
    | cons c r =>
      rw [hl] at h1 h2
      simp at h2
      subst h2
      simp only [beq_iff_eq] at h1 ⊢
      omega
  by_cases hlen : s.size = 1
  · have hbad : Hid (¬ intForm l = true) := Lib.hid fun h => (HP.out.1 h).1 (by rw [HCUT.out]; exact List.drop_eq_nil_of_le (by rw [HSL.out]; omega))
    have e1 : ((1 : Int) == (s.size : Int)) = true := by rw [beq_iff_eq]; omega
    clear hlen
    go_enter Tryz.func50, Tryz.ntmps50
    go_wp2
    go_ret2
    exact pi_bad hbad.out
  have e1 : ((1 : Int) == (s.size : Int)) = false := by rw [beq_eq_false_iff_ne]; omega
  have hF : 1 < s.size := by omega
  have hlong : 1 < s.size := hF
  by_cases hz : s[1].toNat = 48 ∧ 1 < s.size
  · obtain ⟨hz1, hz2⟩ := hz
    have hbad : Hid (¬ intForm l = true) := Lib.hid fun h => by
      rcases (HP.out.1 h).2.2 with h1 | h1
      · apply h1
        rw [HCUT.out, List.getElem?_drop, AT.out _ hF]
        congr 1
        exact UInt8.toNat_inj.1 (by rw [hz1]; rfl)
      · rw [HSL.out] at h1; omega
    have e48 : ((s[1].toNat : Int) == 48) = true := by rw [beq_iff_eq]; omega
    clear hz1
    go_enter Tryz.func50, Tryz.ntmps50
    go_wp2
    go_ret2
    exact pi_bad hbad.out
  have HZ : Hid (s.data.toList = s.data.toList ∧ ((cutNeg l)[0]? ≠ some 48 ∨ l.length ≤ 1)) := Lib.hid ⟨rfl, by
    rw [HCUT.out, List.getElem?_drop, AT.out _ hF, HSL.out]
    by_cases h : s[1].toNat = 48
    · right; omega
    · left; intro h2; injection h2 with h2; apply h; rw [h2]; rfl⟩
  have HNE : Hid (cutNeg l ≠ []) := Lib.hid (by
    rw [HCUT.out]
    intro h
    have := congrArg List.length h
    rw [List.length_drop, HSL.out, List.length_nil] at this
    omega)
  have hb0 := s[1].toNat_lt
  by_cases h48 : s[1].toNat = 48
  · exact absurd ⟨h48, hlong⟩ hz
  · have e48 : ((s[1].toNat : Int) == 48) = false := by rw [beq_eq_false_iff_ne]; omega
    clear h48 hz
    go_enter Tryz.func50, Tryz.ntmps50
    go_wp2
    go_loop [5] (fun i => ∃ k : Nat, 1 ≤ k ∧ k ≤ s.size ∧ i = .int .i64 k ∧ Hid (((cutNeg l).take (k - 1)).all isDig = true)) (fun i => s.size - (intOf i).toNat)
    case atStart => exact ⟨1, by omega, by omega, rfl, Lib.hid (by simp)⟩
    case round =>
      obtain ⟨k, hk1, hk, rfl, hall⟩ := hrel
      by_cases hlt : k < s.size
      · have hb := s[k].toNat_lt
        have hat : Hid ((cutNeg l)[k - 1]? = some s[k]) := Lib.hid (by rw [HCUT.out, List.getElem?_drop, show 1 + (k - 1) = k by omega]; exact AT.out k hlt)
        by_cases hd : 48 ≤ (s[k].toNat : Int) ∧ (s[k].toNat : Int) ≤ 57
        · obtain ⟨hd1, hd2⟩ := hd
          have HD : Hid (isDig s[k] = true) := Lib.hid (decide_eq_true (by omega))
          go_wp2
          go_round
          case rel =>
            refine ⟨k + 1, by omega, by omega, by go_num, Lib.hid ?_⟩
            have hq : k - 1 < (cutNeg l).length := by rw [HCUT.out, List.length_drop, HSL.out]; omega
            rw [show k + 1 - 1 = (k - 1) + 1 by omega, all_take hq, hall.out]
            have h2 := hat.out
            rw [List.getElem?_eq_getElem hq] at h2
            injection h2 with h2
            rw [h2]; exact HD.out
          case measure => simp [intOf]; omega
        · have hbad : Hid (¬ intForm l = true) := Lib.hid fun h => by
            have h2 := List.all_eq_true.1 (HP.out.1 h).2.1 _ (List.mem_of_getElem? hat.out)
            have := of_decide_eq_true h2
            omega
          by_cases h48 : (s[k].toNat : Int) < 48
          · clear hd
            go_wp2
            go_ret2
            exact pi_bad hbad.out
          · have h57 : 57 < (s[k].toNat : Int) := by omega
            have h48' : 48 ≤ (s[k].toNat : Int) := by omega
            clear hd h48
            go_wp2
            go_ret2
            exact pi_bad hbad.out
      · obtain rfl : s.size = k := by omega
        have HALL : Hid ((cutNeg l).all isDig = true) := Lib.hid (by
          have := hall.out
          rw [List.take_of_length_le (by rw [HCUT.out, List.length_drop, HSL.out]; omega)] at this
          exact this)
        have HF : Hid (intForm l = true) := Lib.hid (HP.out.2 ⟨HNE.out, HALL.out, HZ.out.2⟩)
        clear hlt hall
        by_cases h19 : 19 < (s.size : Int) - 1
        · have hL := Lib.hid (parseI_long HF.out (by rw [HCUT.out, List.length_drop, HSL.out]; omega))
          go_wp2
          all_goals go_ret2
          all_goals exact pi_long hL.out
        · have h19' : (s.size : Int) - 1 ≤ 19 := by omega
          clear h19
          go_wp2
          go_loop [6, 7] (fun v i => ∃ (k : Nat) (a : Int), 1 ≤ k ∧ k ≤ s.size ∧ i = .int .i64 k ∧ v = .int .u64 a ∧ 0 ≤ a ∧ a < 10000000000000000000 ∧ Hid (a = ((vald 0 ((cutNeg l).take (k - 1)) : Nat) : Int))) (fun _ i => s.size - (intOf i).toNat)
          case atStart => exact ⟨1, 0, by omega, by omega, rfl, rfl, by omega, by omega, Lib.hid (by simp [vald_nil])⟩
          case round =>
            obtain ⟨k, a, hk1, hk2, rfl, rfl, a0, a1, ha⟩ := hrel
            by_cases hlt : k < s.size
            · have hb := s[k].toNat_lt
              have hat : Hid ((cutNeg l)[k - 1]? = some s[k]) := Lib.hid (by rw [HCUT.out, List.getElem?_drop, show 1 + (k - 1) = k by omega]; exact AT.out k hlt)
              have hd := of_decide_eq_true (List.all_eq_true.1 HALL.out _ (List.mem_of_getElem? hat.out))
              have hd1 : 48 ≤ (s[k].toNat : Int) := by omega
              have hd2 : (s[k].toNat : Int) ≤ 57 := by omega
              have hnew : Hid (a * 10 + ((s[k].toNat : Int) - 48) = ((vald 0 ((cutNeg l).take (k + 1 - 1)) : Nat) : Int)) := Lib.hid (by
                rw [show k + 1 - 1 = (k - 1) + 1 by omega, vald_take hat.out, ha.out]; omega)
              have hlt19 := vald_lt19 HALL.out (k + 1 - 1) (by omega)
              have ha2 : a * 10 + ((s[k].toNat : Int) - 48) < 10000000000000000000 := by rw [hnew.out]; omega
              clear hd hlt19
              go_wp2
              go_round
              case rel => exact ⟨k + 1, _, by omega, by omega, by go_num, rfl, by omega, by omega, hnew⟩
              case measure => simp [intOf]; omega
            · obtain rfl : s.size = k := by omega
              have hval : Hid (a = ((vald 0 (cutNeg l) : Nat) : Int)) := Lib.hid (by
                have := ha.out
                rw [List.take_of_length_le (by rw [HCUT.out, List.length_drop, HSL.out]; omega)] at this
                exact this)
              clear hlt ha
              by_cases hbig : 9223372036854775808 < a
              · have hR := Lib.hid (show parseI l = (0, 51) by unfold parseI; rw [if_pos HF.out, if_pos HN.out, if_neg (by have := hval.out; omega)])
                go_wp2
                go_ret2
                exact pi_long hR.out
              · have hle : a ≤ 9223372036854775808 := by omega
                have hR := Lib.hid (show parseI l = (-a, 0) by unfold parseI; rw [if_pos HF.out, if_pos HN.out, if_pos (by have := hval.out; omega), hval.out])
                have w1 : IntKind.i64.wrap (IntKind.u64.wrap (-a)) = -a := by
                  rw [IntKind.wrap_u64]
                  simp only [IntKind.wrap, IntKind.bits, IntKind.signed]
                  simp
                  omega
                clear hbig
                go_wp2
                go_ret2
                exact pi_ok hR.out

theorem refParse_any (s : ByteArray) (w : World) (hs : s.size ≤ 140737488355328) :
    Calls Tryz.prog 50 #[.string s] w (PI s.data.toList w) := by
  cases h : isNeg s.data.toList with
  | true => exact refParse1 s w hs h
  | false => exact refParse0 s w hs h
end Go.Proofs.YthmgkjfohkadoaaGreatDoor

/- Layer 5, the document's own answer: floats written. -/
namespace Go.Proofs.YthmgkjfohkadoaaGreatDoor
open Go.RowKit
set_option linter.unusedVariables false

theorem hexd_lo {D : Nat} (h : D < 10) : UInt8.ofNat (48 + (D : Int)).toNat = hexd D := by
  unfold hexd; rw [if_pos h, show (48 + (D : Int)).toNat = 48 + D by omega]
theorem hexd_hi {D : Nat} (h : ¬ D < 10) (h2 : D < 16) : UInt8.ofNat (97 + (D : Int) - 10).toNat = hexd D := by
  unfold hexd; rw [if_neg h, show (97 + (D : Int) - 10).toNat = 87 + D by omega]

set_option maxRecDepth 100000 in
set_option maxHeartbeats 1000000 in
theorem refHex (f : Nat) (w : World) (h : f < 4503599627370496) :
    Calls Tryz.prog 75 #[.int .u64 f, .int .i64 13] w fun e w' => e = .returned (.string ⟨(hexN f 13).toArray⟩) ∧ Below w.heap.size w w' := by
  have hf : Hid ((f : Int) < 4503599627370496) := Lib.hid (by omega)
  clear h
  go_enter Tryz.func75, Tryz.ntmps75
  go_wp2
  go_loopw [0, 5, 6] (fun u s i wr => ∃ (j : Nat) (V : Int) (S : ByteArray), j ≤ 13 ∧ u = .int .u64 V ∧ 0 ≤ V ∧ V < 4503599627370496 ∧ s = .string S ∧ S.size ≤ 13 ∧ i = .int .i64 j ∧ Hid (V = ((f / 16 ^ j : Nat) : Int) ∧ S = ⟨(hexN f j).toArray⟩) ∧ Below w.heap.size w wr) (fun _ _ i _ => 13 - (intOf i).toNat)
  case atStart => exact ⟨0, f, ⟨#[]⟩, by omega, rfl, by omega, hf.out, rfl, by decide, rfl, Lib.hid ⟨by simp, rfl⟩, Below.refl _ _⟩
  case round =>
    obtain ⟨j, V, S, hj, rfl, v0, v1, rfl, hS, rfl, hr, hb⟩ := hrel
    clear hf
    by_cases hlt : j < 13
    · obtain ⟨D, hD⟩ : ∃ D : Nat, (D : Int) = V % 16 := ⟨(V % 16).toNat, by omega⟩
      have hD16 : D < 16 := by omega
      have hnx : Hid ((⟨#[hexd D]⟩ ++ S : ByteArray) = ⟨(hexN f (j + 1)).toArray⟩) := Lib.hid (by
        rw [hr.out.2, hexN_front, show f / 16 ^ j % 16 = D by have := hr.out.1; omega]
        exact app_str [_] _)
      have hsz : Hid ((⟨#[hexd D]⟩ ++ S : ByteArray).size ≤ 13) := Lib.hid (by rw [hnx.out, str_size, hexN_len]; omega)
      have hv : Hid (V / 16 = ((f / 16 ^ (j + 1) : Nat) : Int)) := Lib.hid (by rw [hr.out.1, Nat.pow_succ, ← Nat.div_div_eq_div_mul]; rfl)
      have hDI : V % 16 = (D : Int) := hD.symm
      by_cases h10 : D < 10
      · have hcv := one_str wr (48 + V % 16)
        rw [show UInt8.ofNat (48 + V % 16).toNat = hexd D by rw [hDI]; exact hexd_lo h10] at hcv
        obtain ⟨c, hc⟩ : ∃ c, c = hexd D := ⟨_, rfl⟩
        rw [← hc] at hcv hnx hsz
        have h9 : V % 16 ≤ 9 := by omega
        clear hc h10 hD hDI hD16
        go_wp2
        go_roundw
        case rel => exact ⟨j + 1, _, _, by omega, rfl, by omega, by omega, rfl, hsz.out, by go_num, Lib.hid ⟨hv.out, hnx.out⟩, hb.alloc hb.size _⟩
        case measure => simp [intOf]; omega
      · have hcv := one_str wr (97 + V % 16 - 10)
        rw [show UInt8.ofNat (97 + V % 16 - 10).toNat = hexd D by rw [hDI]; exact hexd_hi h10 hD16] at hcv
        obtain ⟨c, hc⟩ : ∃ c, c = hexd D := ⟨_, rfl⟩
        rw [← hc] at hcv hnx hsz
        have h9 : 9 < V % 16 := by omega
        clear hc h10 hD hDI hD16
        go_wp2
        go_roundw
        case rel => exact ⟨j + 1, _, _, by omega, rfl, by omega, by omega, rfl, hsz.out, by go_num, Lib.hid ⟨hv.out, hnx.out⟩, hb.alloc hb.size _⟩
        case measure => simp [intOf]; omega
    · obtain rfl : j = 13 := by omega
      clear hlt
      go_wp2
      go_ret
      exact ⟨ret_str' hr.out.2, hb⟩
end Go.Proofs.YthmgkjfohkadoaaGreatDoor

/- Layer 5, the document's own answer: floats written. -/
namespace Go.Proofs.YthmgkjfohkadoaaGreatDoor
open Go.RowKit
set_option linter.unusedVariables false

theorem ba_ext {a b : ByteArray} (h : a.data.toList = b.data.toList) : a = b := by
  obtain ⟨⟨l⟩⟩ := a
  obtain ⟨⟨m⟩⟩ := b
  simp only at h
  rw [h]
theorem norm_one {m i j : Nat} (h1 : 4503599627370496 ≤ m * 2 ^ i) (h2 : m * 2 ^ i < 9007199254740992) (h3 : 4503599627370496 ≤ m * 2 ^ j) (h4 : m * 2 ^ j < 9007199254740992) : i = j := by
  have key : ∀ a b : Nat, a < b → m * 2 ^ a * 2 ≤ m * 2 ^ b := fun a b h => by
    rw [Nat.mul_assoc, ← Nat.pow_succ]
    exact Nat.mul_le_mul_left _ (Nat.pow_le_pow_right (by omega) h)
  rcases Nat.lt_trichotomy i j with h | h | h
  · have := key i j h; omega
  · exact h
  · have := key j i h; omega
theorem drop48 {l : List UInt8} {k : Nat} (hk : k ≤ l.length) (h : l.drop k = List.replicate (l.length - k) 48) (h2 : k = 0 ∨ ∃ c, l[k - 1]? = some c ∧ c.toNat ≠ 48) : strip0 l = l.take k := by
  have e : l = l.take k ++ List.replicate (l.length - k) 48 := by rw [← h, List.take_append_drop]
  unfold strip0
  conv => lhs; rw [e]
  rw [List.reverse_append, List.reverse_replicate]
  have dr : ∀ (n : Nat) (r : List UInt8), (List.replicate n 48 ++ r).dropWhile (fun c => c.toNat == 48) = r.dropWhile (fun c => c.toNat == 48) := by
    intro n
    induction n with
    | zero => intro r; rfl
    | succ n ih => intro r; rw [List.replicate_succ, List.cons_append, List.dropWhile_cons]; rw [if_pos (by decide)]; exact ih r
  rw [dr]
  rcases h2 with rfl | ⟨c, hc, hne⟩
  · simp
  · have hk0 : 0 < k := by
      rcases Nat.eq_zero_or_pos k with h0 | h0
      · subst h0
        simp at h
        have hm : c ∈ l := List.mem_of_getElem? hc
        rw [h] at hm
        have := (List.mem_replicate.1 hm).2
        rw [this] at hne
        exact absurd rfl hne
      · exact h0
    have ht : l.take k = l.take (k - 1) ++ [c] := by
      have hlt : k - 1 < l.length := by omega
      have := List.take_succ_eq_append_getElem hlt
      rw [show k - 1 + 1 = k by omega] at this
      rw [this]
      congr 2
      rw [List.getElem?_eq_getElem hlt] at hc
      injection hc
    rw [ht, List.reverse_append]
    show List.reverse (List.dropWhile _ (c :: (l.take (k - 1)).reverse)) = _
    rw [List.dropWhile_cons, if_neg (by simpa using hne)]
    simp

/-- the text of a positive finite float behind what stands ahead -/
theorem fin_mag {P : List UInt8} {m k : Nat} {S : ByteArray} (h0 : 0 < m) (h1 : m < 9218868437227405312) (hk : k ≤ 13) (hd : (hexN (fracF m) 13).drop k = List.replicate (13 - k) 48) (h2 : k = 0 ∨ ∃ c, (hexN (fracF m) 13)[k - 1]? = some c ∧ c.toNat ≠ 48)
    (hS : S.data.toList = P ++ [48, 120, 49] ++ (if k = 0 then [] else 46 :: (hexN (fracF m) 13).take k) ++ expT (expoF m)) : S = ⟨(P ++ magT m).toArray⟩ := by
  apply ba_ext
  rw [hS]
  show _ = P ++ magT m
  rw [magT_pos h0 h1]
  have hl := hexN_len 13 (fracF m)
  have hs := drop48 (l := hexN (fracF m) 13) (k := k) (by omega) (by rw [hl]; exact hd) h2
  have hf : fracT (fracF m) = if k = 0 then [] else 46 :: (hexN (fracF m) 13).take k := by
    unfold fracT
    by_cases hz : fracF m = 0
    · rw [if_pos hz]
      rcases h2 with rfl | ⟨c, hc, hne⟩
      · rfl
      · rw [hz] at hc
        have hm := List.mem_of_getElem? hc
        have : c = 48 := by
          have : ∀ x ∈ hexN 0 13, x = 48 := by decide
          exact this c hm
        rw [this] at hne
        exact absurd rfl hne
    · rw [if_neg hz]
      by_cases hk0 : k = 0
      · subst hk0
        exfalso
        apply hz
        rw [List.drop_zero] at hd
        rw [← valx_frac _ (fracF_lt m), hd]
        decide
      · rw [if_neg hk0, hs]
  rw [hf]
  simp

set_option maxRecDepth 100000 in
set_option maxHeartbeats 4000000 in
theorem refFloatPB (bi mi : Int) (m : Nat) (w : World) (hm : mi = (m : Int)) (hbm : bi = mi) (h0 : 0 < mi) (h1 : 4503599627370496 ≤ mi) (h2 : mi < 9218868437227405312) :
    Calls Tryz.prog 63 #[.int .u64 bi] w fun e w' => e = .returned (.string ⟨([] ++ magT m).toArray⟩) ∧ Below w.heap.size w w' := by
  have HM0 : Hid (0 < m) := Lib.hid (by omega)
  have hm1 : m < 9218868437227405312 := by omega
  have HM1 := Lib.hid hm1
  have hf := fracF_lt m
  obtain ⟨he0, he1⟩ := expoF_bd HM0.out hm1
  obtain ⟨E, hE⟩ : ∃ E, E = expoF m := ⟨_, rfl⟩
  obtain ⟨Fi, hFi⟩ : ∃ Fi : Int, Fi = (fracF m : Int) := ⟨_, rfl⟩
  have hxs : ∃ XS : ByteArray, XS = ⟨(hexN (fracF m) 13).toArray⟩ ∧ XS.size = 13 := ⟨_, rfl, by rw [str_size, hexN_len]⟩
  obtain ⟨XS, hXS, hXz⟩ := hxs
  have HXS : Hid (XS.data.toList = hexN (fracF m) 13) := Lib.hid (by rw [hXS])
  have HH : Hid (∀ w, Calls Tryz.prog 75 #[.int .u64 Fi, .int .i64 13] w fun e w' => e = .returned (.string XS) ∧ Below w.heap.size w w') := Lib.hid fun w => by
    rw [hFi, hXS]; exact refHex _ w hf
  have HDp : Hid (0 ≤ E → ∀ w, Calls Tryz.prog 76 #[.int .u64 E] w fun e w' => ∃ DS : ByteArray, e = .returned (.string DS) ∧ DS.size ≤ 20 ∧ (0 ≤ E → expT (expoF m) = 112 :: DS.data.toList) ∧ Below w.heap.size w w') := Lib.hid fun h w => by
    obtain ⟨a, ha⟩ := Int.eq_ofNat_of_zero_le h
    rw [ha]
    refine (refDigits a w (by omega)).mono fun e w' ⟨hr, hb⟩ => ⟨_, hr, ?_, fun _ => ?_, hb⟩
    · rw [str_size]; exact dd_len20 (by omega)
    · rw [← hE, expT_nn (by omega), ha]; rfl
  have HDm : Hid (E < 0 → ∀ w, Calls Tryz.prog 76 #[.int .u64 (-E)] w fun e w' => ∃ DS : ByteArray, e = .returned (.string DS) ∧ DS.size ≤ 20 ∧ (E < 0 → expT (expoF m) = 109 :: DS.data.toList) ∧ Below w.heap.size w w') := Lib.hid fun h w => by
    obtain ⟨a, ha⟩ := Int.eq_ofNat_of_zero_le (show 0 ≤ -E by omega)
    rw [ha]
    refine (refDigits a w (by omega)).mono fun e w' ⟨hr, hb⟩ => ⟨_, hr, ?_, fun _ => ?_, hb⟩
    · rw [str_size]; exact dd_len20 (by omega)
    · rw [← hE, expT_neg h, show E.natAbs = a by omega]
  rw [← hE] at he0 he1
  have z1 : 13 ≤ XS.size := by omega
  have z2 : XS.size ≤ 13 := by omega
  have e1 : (mi == 9218868437227405312) = false := by rw [beq_eq_false_iff_ne]; omega
  have e2 : (mi == 0) = false := by rw [beq_eq_false_iff_ne]; omega
  have h3 : mi < 9223372036854775808 := by omega
  obtain ⟨X, hX⟩ : ∃ X : Int, X = mi / 4503599627370496 := ⟨_, rfl⟩
  have x0 : 1 ≤ X := by omega
  have x1 : X ≤ 2046 := by omega
  have hX' : mi / 4503599627370496 = X := hX.symm
  have hXE : X - 1023 = E := by rw [hE]; unfold expoF; rw [if_neg (by omega)]; omega
  have hY' : mi % 4503599627370496 = Fi := by rw [hFi]; unfold fracF; rw [if_neg (by omega)]; omega
  have f0 : 0 ≤ Fi := by omega
  have f1 : Fi < 4503599627370496 := by omega
  have e3 : (X == 0) = false := by rw [beq_eq_false_iff_ne]; omega
  subst hbm
  clear hm hm1 hf hE hFi hXS hX hXz
  go_enter Tryz.func63, Tryz.ntmps63
  go_wp2_with fail
  refine (HH.out _).mono ?_
  rintro e w1 ⟨rfl, hb1⟩
  have HB1 := Lib.hid hb1
  clear hb1
  go_wp2
  go_loopw [7] (fun n wr => ∃ k : Nat, k ≤ 13 ∧ n = .int .i64 k ∧ Hid ((hexN (fracF m) 13).drop k = List.replicate (13 - k) 48) ∧ wr = w1) (fun n _ => (intOf n).toNat)
  case atStart => exact ⟨13, by omega, rfl, Lib.hid (by rw [List.drop_eq_nil_of_le (by rw [hexN_len]; omega)]; rfl), rfl⟩
  case round =>
    obtain ⟨k, hk, rfl, hdr, rfl⟩ := hrel
    cases k with
    | zero =>
      have HFin : Hid (∀ S : ByteArray, S.data.toList = [] ++ [48, 120, 49] ++ [] ++ expT (expoF m) → S = ⟨([] ++ magT m).toArray⟩) := Lib.hid fun S hS => fin_mag HM0.out HM1.out (k := 0) (by omega) hdr.out (.inl rfl) (by rw [hS]; rfl)
      clear hdr
      by_cases hE : 0 ≤ E
      · go_wp2_with fail
        refine (HDp.out hE _).mono ?_
        rintro e w2 ⟨DS, rfl, hds, hdd, hb2⟩
        have HD := Lib.hid hdd
        have HB2 := Lib.hid hb2
        clear hdd hb2
        go_wp2
        go_ret
        exact ⟨ret_str' (HFin.out _ (by simp only [Joins.data_append, HD.out hE]; simp)), HB1.out.trans (HB2.out.mono HB1.out.size)⟩
      · have hE' : E < 0 := by omega
        clear hE
        go_wp2_with fail
        refine (HDm.out hE' _).mono ?_
        rintro e w2 ⟨DS, rfl, hds, hdd, hb2⟩
        have HD := Lib.hid hdd
        have HB2 := Lib.hid hb2
        clear hdd hb2
        go_wp2
        go_ret
        exact ⟨ret_str' (HFin.out _ (by simp only [Joins.data_append, HD.out hE']; simp)), HB1.out.trans (HB2.out.mono HB1.out.size)⟩
    | succ k =>
      have hat : Hid ((hexN (fracF m) 13)[k]? = some XS[k]) := Lib.hid (by
        have := byte_at XS k (by omega)
        rw [HXS.out] at this
        exact this)
      by_cases h48 : XS[k].toNat = 48
      · have e48 : ((XS[k].toNat : Int) == 48) = true := by rw [beq_iff_eq]; omega
        have hnx : Hid ((hexN (fracF m) 13).drop k = List.replicate (13 - k) 48) := Lib.hid (by
          have hlt : k < (hexN (fracF m) 13).length := by rw [hexN_len]; omega
          rw [List.drop_eq_getElem_cons hlt, hdr.out, show 13 - k = (13 - (k + 1)) + 1 by omega, List.replicate_succ]
          congr 1
          have h2 := hat.out
          rw [List.getElem?_eq_getElem hlt] at h2
          injection h2 with h2
          rw [h2]
          exact UInt8.toNat_inj.1 (by rw [h48]; rfl))
        clear h48
        go_wp2
        go_roundw
        case rel => exact ⟨k, by omega, by go_num, hnx, by first | rfl | trivial⟩
        case measure => simp [intOf]
      · have e48 : ((XS[k].toNat : Int) == 48) = false := by rw [beq_eq_false_iff_ne]; omega
        obtain ⟨T, hT⟩ : ∃ T, T = XS.extract 0 (k + 1) := ⟨_, rfl⟩
        have hTd : Hid (T.data.toList = (hexN (fracF m) 13).take (k + 1)) := Lib.hid (by rw [hT, Lib.extract_data, HXS.out]; simp)
        have hTs : T.size ≤ 13 := by rw [Lib.size_eq, hTd.out]; have := List.length_take_le (k + 1) (hexN (fracF m) 13); omega
        have hT' : XS.extract 0 (k + 1) = T := hT.symm
        have HFin : Hid (∀ S : ByteArray, S.data.toList = [] ++ [48, 120, 49] ++ (46 :: T.data.toList) ++ expT (expoF m) → S = ⟨([] ++ magT m).toArray⟩) := Lib.hid fun S hS => fin_mag HM0.out HM1.out (k := k + 1) (by omega) hdr.out (.inr ⟨_, hat.out, h48⟩) (by rw [hS, if_neg (by omega), hTd.out])
        clear h48 hT hdr hat
        by_cases hE : 0 ≤ E
        · go_wp2_with fail
          refine (HDp.out hE _).mono ?_
          rintro e w2 ⟨DS, rfl, hds, hdd, hb2⟩
          have HD := Lib.hid hdd
          have HB2 := Lib.hid hb2
          clear hdd hb2
          go_wp2
          go_ret
          exact ⟨ret_str' (HFin.out _ (by simp only [Joins.data_append, HD.out hE]; simp)), HB1.out.trans (HB2.out.mono HB1.out.size)⟩
        · have hE' : E < 0 := by omega
          clear hE
          go_wp2_with fail
          refine (HDm.out hE' _).mono ?_
          rintro e w2 ⟨DS, rfl, hds, hdd, hb2⟩
          have HD := Lib.hid hdd
          have HB2 := Lib.hid hb2
          clear hdd hb2
          go_wp2
          go_ret
          exact ⟨ret_str' (HFin.out _ (by simp only [Joins.data_append, HD.out hE']; simp)), HB1.out.trans (HB2.out.mono HB1.out.size)⟩

end Go.Proofs.YthmgkjfohkadoaaGreatDoor
