/- Names of graphs: which are good. -/
import Derived.Test.YthnaipgdjbaebaaGreatGrBase
import Derived.Test.YthnaipgdjbaebaaGreatStr
namespace Go.Proofs.YthnaipgdjbaebaaGreat
open Go.RowKit
set_option linter.unusedVariables false

def isD (c : Nat) : Bool := decide (48 ≤ c ∧ c ≤ 57)
def isL (c : Nat) : Bool := decide ((97 ≤ c ∧ c ≤ 122) ∨ (65 ≤ c ∧ c ≤ 90) ∨ c = 95)

set_option maxHeartbeats 400000 in
theorem isDigit_any (c : Nat) (w : World) :
    Calls Tryz.prog 34 #[.int .u8 (c : Int)] w fun e w' => e = .returned (.bool (isD c)) ∧ w = w' := by
  have hc : c < 48 ∨ (48 ≤ c ∧ c ≤ 57) ∨ 57 < c := by omega
  rcases hc with h | h | h
  all_goals
    go_enter Tryz.func34, Tryz.ntmps34
    go_wp2
    go_ret
    exact ⟨ret_bool (by unfold isD; rw [Bool.eq_iff_iff]; simp; try omega), rfl⟩

set_option maxHeartbeats 1000000 in
theorem isLetter_any (c : Nat) (w : World) :
    Calls Tryz.prog 35 #[.int .u8 (c : Int)] w fun e w' => e = .returned (.bool (isL c)) ∧ w = w' := by
  have hc : (97 ≤ c ∧ c ≤ 122) ∨ (65 ≤ c ∧ c ≤ 90) ∨ c = 95 ∨ (122 < c) ∨ (c < 65) ∨ (90 < c ∧ c < 97 ∧ c ≠ 95) := by omega
  rcases hc with h | h | rfl | h | h | h
  case inr.inr.inl =>
    go_enter Tryz.func35, Tryz.ntmps35
    go_wp2
    go_ret
    exact ⟨ret_bool (by unfold isL; rw [Bool.eq_iff_iff]; simp; try omega), rfl⟩
  all_goals
    have e95 : ((c : Int) == 95) = false := by rw [beq_eq_false_iff_ne]; omega
    go_enter Tryz.func35, Tryz.ntmps35
    go_wp2
    go_ret
    exact ⟨ret_bool (by unfold isL; rw [Bool.eq_iff_iff]; simp; try omega), rfl⟩

/-- byte k of a string -/
def sb (s : ByteArray) (k : Nat) : Nat := nth (strBytes s) k
/-- may s be a name? -/
def goodN (s : ByteArray) : Bool := decide (0 < s.size) && decide (s.size ≤ 40) && !isD (sb s 0) && (strBytes s).all fun c => isL c || isD c
theorem goodN_short {s : ByteArray} (h : s.size = 0) : goodN s = false := by simp [goodN, h]
theorem goodN_long {s : ByteArray} (h : 40 < s.size) : goodN s = false := by
  unfold goodN; rw [show decide (s.size ≤ 40) = false from by simpa using h]; simp
theorem goodN_digit {s : ByteArray} (h : isD (sb s 0) = true) : goodN s = false := by simp [goodN, h]
theorem goodN_bad {s : ByteArray} {k : Nat} (hk : k < s.size) (h : (isL (sb s k) || isD (sb s k)) = false) : goodN s = false := by
  unfold goodN
  have : ((strBytes s).all fun c => isL c || isD c) = false := by
    rw [List.all_eq_false]
    have hl : k < (strBytes s).length := by rw [strBytes_length]; exact hk
    refine ⟨(strBytes s)[k], List.getElem_mem hl, ?_⟩
    rw [← nth_lt hl]
    simpa [sb] using h
  rw [this]; simp
theorem goodN_yes {s : ByteArray} (h0 : 0 < s.size) (h1 : s.size ≤ 40) (h2 : isD (sb s 0) = false) (h3 : ∀ k, k < s.size → (isL (sb s k) || isD (sb s k)) = true) : goodN s = true := by
  unfold goodN
  rw [decide_eq_true h0, decide_eq_true h1, h2]
  simp only [Bool.true_and, Bool.not_false]
  rw [List.all_eq_true]
  intro c hc
  obtain ⟨k, hk, rfl⟩ := List.getElem_of_mem hc
  rw [strBytes_length] at hk
  have := h3 k hk
  unfold sb at this
  rwa [nth_lt (by rw [strBytes_length]; exact hk)] at this
theorem sb_eq {s : ByteArray} {k : Nat} (h : k < s.size) : sb s k = s[k].toNat := by
  unfold sb
  rw [nth_lt (by rw [strBytes_length]; exact h)]
  simp [strBytes]
  rfl

set_option maxHeartbeats 1000000 in
theorem GoodName_any (s : ByteArray) (w : World) (hs : s.size ≤ maxLen) :
    Calls Tryz.prog 16 #[.string s] w fun e w' => e = .returned (.bool (goodN s)) ∧ w = w' := by
  unfold maxLen at hs
  by_cases h0 : s.size = 0
  · obtain rfl : s = ⟨#[]⟩ := by
      obtain ⟨⟨l⟩⟩ := s
      have : l.length = 0 := h0
      rw [List.length_eq_zero_iff.1 this]
    have HG := Lib.hid (goodN_short h0)
    clear h0
    go_enter Tryz.func16, Tryz.ntmps16
    go_wp2
    go_ret
    exact ⟨ret_bool HG.out.symm, rfl⟩
  · have hpos : 0 < s.size := by omega
    have he2 : s.data.toList.isEmpty = false := by
      rw [List.isEmpty_eq_false_iff]
      intro h
      have : s.data.toList.length = s.size := by rw [Array.length_toList]; rfl
      rw [h] at this
      simp at this
      omega
    have he1 : s.toList.isEmpty = false := by rw [ByteArray.toList_eq]; exact he2
    by_cases h40 : 40 < s.size
    · have HG := Lib.hid (goodN_long h40)
      clear h0
      go_enter Tryz.func16, Tryz.ntmps16
      go_wp2
      go_ret
      exact ⟨ret_bool HG.out.symm, rfl⟩
    · have h40' : s.size ≤ 40 := by omega
      have hb0 := sb_eq hpos
      by_cases hd : isD (sb s 0) = true
      · have HG := Lib.hid (goodN_digit hd)
        have HD := isDigit_any s[0].toNat w
        rw [← hb0, hd, hb0] at HD
        have HD := Lib.hid HD
        clear h0 hb0 hd
        go_enter Tryz.func16, Tryz.ntmps16
        go_wp2_with (go_at_call 34; refine HD.out.mono ?_; rintro e w' ⟨rfl, rfl⟩)
        go_ret
        exact ⟨ret_bool HG.out.symm, rfl⟩
      · have hd : isD (sb s 0) = false := by simpa using hd
        have HG := Lib.hid (goodN_yes hpos h40' hd)
        have HD := isDigit_any s[0].toNat w
        rw [← hb0, hd, hb0] at HD
        have HD := Lib.hid HD
        clear h0 hb0 hd
        go_enter Tryz.func16, Tryz.ntmps16
        go_wp2_with (go_at_call 34; refine HD.out.mono ?_; rintro e w' ⟨rfl, rfl⟩)
        go_loop [3, 18] (fun _ i => ∃ k : Nat, k ≤ s.size ∧ i = .int .i64 k ∧ ∀ j, j < k → (isL (sb s j) || isD (sb s j)) = true) (fun _ i => s.size - (intOf i).toNat)
        case atStart => exact ⟨0, Nat.zero_le _, rfl, fun j hj => by omega⟩
        case round =>
          obtain ⟨k, hk, rfl, hall⟩ := hrel
          have Hall := Lib.hid hall
          clear hall
          by_cases hlt : k < s.size
          · have hbk := sb_eq hlt
            have HLk := isLetter_any s[k].toNat w
            have HDk := isDigit_any s[k].toNat w
            rw [← hbk] at HLk HDk
            rcases hL : isL (sb s k) with _ | _
            · rcases hD : isD (sb s k) with _ | _
              · have HB := Lib.hid (goodN_bad hlt (by rw [hL, hD]; rfl))
                rw [hL, hbk] at HLk
                rw [hD, hbk] at HDk
                have HLk := Lib.hid HLk
                have HDk := Lib.hid HDk
                clear hL hD hbk
                go_wp2_with (first | (go_at_call 35; refine HLk.out.mono ?_; rintro e w' ⟨rfl, rfl⟩) | (go_at_call 34; refine HDk.out.mono ?_; rintro e w' ⟨rfl, rfl⟩))
                go_ret
                exact ⟨ret_bool HB.out.symm, rfl⟩
              · have HB : Hid ((isL (sb s k) || isD (sb s k)) = true) := Lib.hid (by rw [hD]; simp)
                rw [hL, hbk] at HLk
                rw [hD, hbk] at HDk
                have HLk := Lib.hid HLk
                have HDk := Lib.hid HDk
                clear hL hD hbk
                go_wp2_with (first | (go_at_call 35; refine HLk.out.mono ?_; rintro e w' ⟨rfl, rfl⟩) | (go_at_call 34; refine HDk.out.mono ?_; rintro e w' ⟨rfl, rfl⟩))
                go_round
                case rel => exact ⟨k + 1, by omega, by go_num, fun j hj => by
                  rcases Nat.lt_succ_iff_lt_or_eq.1 hj with h | rfl
                  · exact Hall.out j h
                  · exact HB.out⟩
                case measure => simp [intOf]; omega
            · have HB : Hid ((isL (sb s k) || isD (sb s k)) = true) := Lib.hid (by rw [hL]; simp)
              rw [hL, hbk] at HLk
              have HLk := Lib.hid HLk
              clear hL hbk HDk
              go_wp2_with (go_at_call 35; refine HLk.out.mono ?_; rintro e w' ⟨rfl, rfl⟩)
              go_round
              case rel => exact ⟨k + 1, by omega, by go_num, fun j hj => by
                rcases Nat.lt_succ_iff_lt_or_eq.1 hj with h | rfl
                · exact Hall.out j h
                · exact HB.out⟩
              case measure => simp [intOf]; omega
          · have HY : Hid (goodN s = true) := Lib.hid (HG.out fun j hj => Hall.out j (by omega))
            go_wp2
            go_ret
            exact ⟨ret_bool HY.out.symm, rfl⟩

end Go.Proofs.YthnaipgdjbaebaaGreat
