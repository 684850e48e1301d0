/- Names of graphs: the document's answer. -/
import Derived.Test.YthnaipgdjbaebaaGreatGrName
namespace Go.Proofs.YthnaipgdjbaebaaGreat
open Go.RowKit
set_option linter.unusedVariables false

def letterL : List Nat := [97, 98, 99, 100, 101, 102, 103, 104, 105, 106, 107, 108, 109, 110, 111, 112, 113, 114, 115, 116, 117, 118, 119, 120, 121, 122, 65, 66, 67, 68, 69, 70, 71, 72, 73, 74, 75, 76, 77, 78, 79, 80, 81, 82, 83, 84, 85, 86, 87, 88, 89, 90, 95, 48, 49, 50, 51, 52, 53, 54, 55, 56, 57]
theorem letter_all : ∀ c, c < 256 → (∀ j, j < 63 → nth letterL j ≠ c) → (isL c || isD c) = false := by decide +kernel
theorem letter_is : ∀ j, j < 63 → (isL (nth letterL j) || isD (nth letterL j)) = true ∧ isD (nth letterL j) = decide (52 < j) := by decide +kernel
theorem letter_at : ∀ j (h : j < 63), ((⟨#[97, 98, 99, 100, 101, 102, 103, 104, 105, 106, 107, 108, 109, 110, 111, 112, 113, 114, 115, 116, 117, 118, 119, 120, 121, 122, 65, 66, 67, 68, 69, 70, 71, 72, 73, 74, 75, 76, 77, 78, 79, 80, 81, 82, 83, 84, 85, 86, 87, 88, 89, 90, 95, 48, 49, 50, 51, 52, 53, 54, 55, 56, 57]⟩ : ByteArray)[j]'h).toNat = nth letterL j := by decide +kernel
theorem letter_run (m : Nat) (h : m < 63) (w : World) : (Instr.index 9 (.string (⟨#[97, 98, 99, 100, 101, 102, 103, 104, 105, 106, 107, 108, 109, 110, 111, 112, 113, 114, 115, 116, 117, 118, 119, 120, 121, 122, 65, 66, 67, 68, 69, 70, 71, 72, 73, 74, 75, 76, 77, 78, 79, 80, 81, 82, 83, 84, 85, 86, 87, 88, 89, 90, 95, 48, 49, 50, 51, 52, 53, 54, 55, 56, 57]⟩ : ByteArray)) (.int .i64 (m : Int))).run Tryz.prog w = .ok (.int .u8 ((nth letterL m : Nat) : Int)) w := by
  rw [run_index_string w 9 (⟨#[97, 98, 99, 100, 101, 102, 103, 104, 105, 106, 107, 108, 109, 110, 111, 112, 113, 114, 115, 116, 117, 118, 119, 120, 121, 122, 65, 66, 67, 68, 69, 70, 71, 72, 73, 74, 75, 76, 77, 78, 79, 80, 81, 82, 83, 84, 85, 86, 87, 88, 89, 90, 95, 48, 49, 50, 51, 52, 53, 54, 55, 56, 57]⟩ : ByteArray) .i64 (m : Int) Tryz.underlying9]
  have hs : ((⟨#[97, 98, 99, 100, 101, 102, 103, 104, 105, 106, 107, 108, 109, 110, 111, 112, 113, 114, 115, 116, 117, 118, 119, 120, 121, 122, 65, 66, 67, 68, 69, 70, 71, 72, 73, 74, 75, 76, 77, 78, 79, 80, 81, 82, 83, 84, 85, 86, 87, 88, 89, 90, 95, 48, 49, 50, 51, 52, 53, 54, 55, 56, 57]⟩ : ByteArray) : ByteArray).size = 63 := rfl
  rw [dif_pos (by rw [hs]; omega), ← letter_at m h]
  rfl

set_option maxRecDepth 100000 in
set_option maxHeartbeats 1000000 in
theorem refGoodName_any (s : ByteArray) (w : World) (hs : s.size ≤ maxLen) :
    Calls Tryz.prog 17 #[.string s] w fun e w' => e = .returned (.bool (goodN s)) ∧ ∃ n, w' = w.drewN n := by
  unfold maxLen at hs
  by_cases h0 : s.size = 0
  · have HG := Lib.hid (goodN_short h0)
    have hlt : s.size < 1 := by omega
    clear h0
    go_enter Tryz.func17, Tryz.ntmps17
    go_wp2
    go_ret
    exact ⟨ret_bool HG.out.symm, 0, rfl⟩
  have hpos : 1 ≤ s.size := by omega
  by_cases h40 : 40 < s.size
  · have HG := Lib.hid (goodN_long h40)
    clear h0
    go_enter Tryz.func17, Tryz.ntmps17
    go_wp2
    go_ret
    exact ⟨ret_bool HG.out.symm, 0, rfl⟩
  have HG : Hid (isD (sb s 0) = false → (∀ k, k < s.size → (isL (sb s k) || isD (sb s k)) = true) → goodN s = true) := Lib.hid (goodN_yes (by omega) (by omega))
  have x63 : (⟨#[97, 98, 99, 100, 101, 102, 103, 104, 105, 106, 107, 108, 109, 110, 111, 112, 113, 114, 115, 116, 117, 118, 119, 120, 121, 122, 65, 66, 67, 68, 69, 70, 71, 72, 73, 74, 75, 76, 77, 78, 79, 80, 81, 82, 83, 84, 85, 86, 87, 88, 89, 90, 95, 48, 49, 50, 51, 52, 53, 54, 55, 56, 57]⟩ : ByteArray).size = 63 := rfl
  clear h0
  go_enter Tryz.func17, Tryz.ntmps17
  go_wp2
  go_loopw [3, 4] (fun i _ wr => ∃ k n : Nat, k ≤ s.size ∧ i = .int .i64 k ∧ (0 < k → isD (sb s 0) = false) ∧ (∀ j, j < k → (isL (sb s j) || isD (sb s j)) = true) ∧ wr = w.drewN n) (fun i _ _ => s.size - (intOf i).toNat)
  case atStart => exact ⟨0, 0, Nat.zero_le _, rfl, fun h => by omega, fun j hj => by omega, rfl⟩
  case round =>
    obtain ⟨k, n, hk, rfl, hd0, hall, rfl⟩ := hrel
    have Hall := Lib.hid hall
    have Hd0 := Lib.hid hd0
    clear hall hd0
    obtain ⟨wo, hwo⟩ : ∃ x, x = w.drewN n := ⟨_, rfl⟩
    rw [← hwo]
    have Hwo := Lib.hid hwo
    clear hwo
    by_cases hlt : k < s.size
    · have hbk := sb_eq hlt
      have hlb : sb s k < 256 := (strBytes_is s).nth k
      have Hbk := Lib.hid hbk
      clear hbk
      go_wp2
      go_loopw [4] (fun a wr => ∃ m n : Nat, m ≤ 63 ∧ a = .int .i64 m ∧ (∀ j, j < m → nth letterL j ≠ sb s k) ∧ wr = wo.drewN n) (fun a _ => 63 - (intOf a).toNat)
      case atStart => exact ⟨0, 0, Nat.zero_le _, rfl, fun j hj => by omega, rfl⟩
      case round =>
        obtain ⟨m, n2, hm, rfl, hno, rfl⟩ := hrel
        have Hno := Lib.hid hno
        clear hno
        by_cases hm63 : m < 63
        · have g1 : decide ((m : Int) < 63) = true := by simp; omega
          have hix := letter_run m hm63
          have hli := letter_is m hm63
          by_cases heq : nth letterL m = sb s k
          · have x1 : (((nth letterL m : Nat) : Int) != ((s[k]'hlt).toNat : Int)) = false := by rw [heq, Hbk.out]; simp
            rw [heq] at hli
            have Hli := Lib.hid hli
            clear hli heq
            have e63 : ((m : Int) == 63) = false := by rw [beq_eq_false_iff_ne]; omega
            by_cases hk0 : k = 0
            · subst hk0
              have e0 : (((0 : Nat) : Int) == 0) = true := rfl
              by_cases h52 : 52 < m
              · have HB := Lib.hid (goodN_digit (s := s) (by rw [Hli.out.2]; simpa using h52))
                go_wp2
                go_quiet (fail)
                go_wp2
                go_ret
                exact ⟨ret_bool HB.out.symm, n + (n2 + nq), by rw [Hwo.out, World.drewN_drewN]⟩
              · have hnd : Hid (isD (sb s 0) = false) := Lib.hid (by rw [Hli.out.2]; simpa using h52)
                go_wp2
                go_quiet (fail)
                go_wp2
                go_roundw
                case rel => exact ⟨1, n + (n2 + nq), by omega, by go_num, fun _ => hnd.out, fun j hj => by
                  obtain rfl : j = 0 := by omega
                  exact Hli.out.1, by rw [Hwo.out, World.drewN_drewN]⟩
                case measure => simp [intOf]; omega
            · have e0 : ((k : Int) == 0) = false := by rw [beq_eq_false_iff_ne]; omega
              clear hk0
              go_wp2
              go_quiet (fail)
              go_wp2
              go_roundw
              case rel => exact ⟨k + 1, n + (n2 + nq), by omega, by go_num, fun _ => Hd0.out (by simp at e0; omega), fun j hj => by
                rcases Nat.lt_succ_iff_lt_or_eq.1 hj with h | rfl
                · exact Hall.out j h
                · exact Hli.out.1, by rw [Hwo.out, World.drewN_drewN]⟩
              case measure => simp [intOf]; omega
          · have x1 : (((nth letterL m : Nat) : Int) != ((s[k]'hlt).toNat : Int)) = true := by rw [← Hbk.out, bne_iff_ne]; omega
            have Heq := Lib.hid heq
            clear hli heq
            go_wp2
            go_quiet (fail)
            go_wp2
            go_roundw
            case rel => exact ⟨m + 1, n2 + nq, by omega, by go_num, fun j hj => by
              rcases Nat.lt_succ_iff_lt_or_eq.1 hj with h | rfl
              · exact Hno.out j h
              · exact Heq.out, by first | rfl | rw [World.drewN_drewN]⟩
            case measure => simp [intOf]; omega
        · obtain rfl : m = 63 := by omega
          have HB := Lib.hid (goodN_bad hlt (letter_all _ hlb Hno.out))
          have g1 : decide (((63 : Nat) : Int) < 63) = false := by decide
          go_wp2
          go_quiet (fail)
          go_wp2
          go_ret
          exact ⟨ret_bool HB.out.symm, n + (n2 + nq), by rw [Hwo.out, World.drewN_drewN]⟩
    · have HY : Hid (goodN s = true) := Lib.hid (HG.out (Hd0.out (by omega)) fun j hj => Hall.out j (by omega))
      go_wp2
      go_ret
      exact ⟨ret_bool HY.out.symm, n, Hwo.out⟩

end Go.Proofs.YthnaipgdjbaebaaGreat
