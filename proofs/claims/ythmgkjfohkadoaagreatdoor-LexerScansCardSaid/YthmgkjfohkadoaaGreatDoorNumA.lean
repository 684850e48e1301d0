/- Layer 5: digits; the two halves of a float joined. -/
import Derived.Test.YthmgkjfohkadoaaGreatDoorProg
import Derived.Test.YthmgkjfohkadoaaGreatDoorNumFlt
import Derived.WalkKit
import Derived.ProofKit
import Derived.OpenShut
import Derived.ShutString
import Derived.WalkSpells
import Derived.Lib.Strings
import Derived.Lib.Hide
import Derived.Deep.QuietTactic
import Derived.BigQuiet
import Derived.Outline
import Derived.Below
import Derived.Laws.BitsAllLaws
namespace Go.Proofs.YthmgkjfohkadoaaGreatDoor
open Go.RowKit
set_option linter.unusedVariables false

theorem ret_int' {k : IntKind} {a b : Int} (h : a = b) : Ending.returned (.int k a) = .returned (.int k b) := by rw [h]
theorem ret_str' {a b : ByteArray} (h : a = b) : Ending.returned (.string a) = .returned (.string b) := by rw [h]
theorem ret_bool' {a b : Bool} (h : a = b) : Ending.returned (.bool a) = .returned (.bool b) := by rw [h]

theorem byte_at (s : ByteArray) (k : Nat) (h : k < s.size) : s.data.toList[k]? = some s[k] := by
  have : k < s.data.toList.length := by simpa using h
  rw [List.getElem?_eq_getElem this]; rfl

theorem bne_cast (a : Nat) : ((a : Int) != 48) = (a != 48) := by
  rw [Bool.eq_iff_iff]; simp only [bne_iff_ne, ne_eq]; omega
theorem or_one {f : Nat} (hf : f < 4503599627370496) : bits .or .u64 4503599627370496 (f : Int) = ((4503599627370496 + f : Nat) : Int) := by
  have h := u64_or_nat 4503599627370496 f (by omega) (by omega)
  rw [nat_join 52 4503599627370496 f (by decide) (by simpa using hf)] at h
  exact h
theorem or_join {k f : Nat} (hk : k < 4096) (hf : f < 4503599627370496) : bits .or .u64 ((k : Int) * 4503599627370496) (f : Int) = ((k * 4503599627370496 + f : Nat) : Int) := by
  have h := u64_or_nat (k * 4503599627370496) f (by omega) (by omega)
  rw [nat_join 52 (k * 4503599627370496) f (by omega) (by simpa using hf)] at h
  rw [← h]; rfl
theorem all_take {l : List UInt8} {k : Nat} (h : k < l.length) : (l.take (k + 1)).all isDig = ((l.take k).all isDig && isDig l[k]) := by
  rw [List.take_succ_eq_append_getElem h, List.all_append]; simp
theorem posForm_bad {l : List UInt8} {k : Nat} {c : UInt8} (h : l[k]? = some c) (hd : isDig c = false) : posForm l = false := by
  have : l.all isDig = false := by
    rw [List.all_eq_false]
    exact ⟨c, List.mem_of_getElem? h, by simp [hd]⟩
  unfold posForm; rw [this]; rfl
theorem posForm_end {l : List UInt8} (h : l.all isDig = true) {c : UInt8} (h0 : l[0]? = some c) : posForm l = (c.toNat != 48) := by
  unfold posForm
  rw [h]
  cases l with
  | nil => simp at h0
  | cons d r => simp at h0; subst h0; rfl

set_option maxHeartbeats 1000000 in
theorem isPositive_any (s : ByteArray) (w : World) (hs : s.size ≤ 9223372036854775806) :
    Calls Tryz.prog 58 #[.string s] w fun e w' => e = .returned (.bool (posForm s.data.toList)) ∧ w = w' := by
  have hlen : Hid (s.data.toList.length = s.size) := Lib.hid (by simp)
  have PB := Lib.hid fun k c h hd => @posForm_bad s.data.toList k c h hd
  have PE := Lib.hid fun h c h0 => @posForm_end s.data.toList h c h0
  have PN := Lib.hid fun h => (show s.data.toList = [] → posForm s.data.toList = false from fun h => by rw [h]; rfl) h
  have AT := Lib.hid fun k h => @all_take s.data.toList k h
  have BA := Lib.hid fun k h => byte_at s k h
  obtain ⟨R, hR⟩ : ∃ R, R = posForm s.data.toList := ⟨_, rfl⟩
  rw [← hR]
  have HR := Lib.hid hR
  clear hR
  go_enter Tryz.func58, Tryz.ntmps58
  go_wp2
  go_loop [6] (fun i => ∃ k : Nat, k ≤ s.size ∧ i = .int .i64 k ∧ Hid ((s.data.toList.take k).all isDig = true)) (fun i => s.size - (intOf i).toNat)
  case atStart => exact ⟨0, Nat.zero_le _, rfl, Lib.hid (by simp)⟩
  case round =>
    obtain ⟨k, hk, rfl, hall⟩ := hrel
    by_cases hlt : k < s.size
    · have hb := s[k].toNat_lt
      by_cases hd : 48 ≤ (s[k].toNat : Int) ∧ (s[k].toNat : Int) ≤ 57
      · obtain ⟨hd1, hd2⟩ := hd
        have HD : Hid (isDig s[k] = true) := Lib.hid (decide_eq_true (by omega))
        go_wp2
        go_round
        case rel => exact ⟨k + 1, by omega, by go_num, Lib.hid (by rw [AT.out k (by rw [hlen.out]; exact hlt), hall.out]; exact HD.out)⟩
        case measure => simp [intOf]; omega
      · have HD : Hid (isDig s[k] = false) := Lib.hid (decide_eq_false (by omega))
        by_cases h48 : (s[k].toNat : Int) < 48
        · clear hd
          go_wp2
          go_ret
          exact ⟨ret_bool' (by rw [HR.out, PB.out k _ (BA.out k hlt) HD.out]), rfl⟩
        · have h57 : 57 < (s[k].toNat : Int) := by omega
          have h48' : 48 ≤ (s[k].toNat : Int) := by omega
          clear hd h48
          go_wp2
          go_ret
          exact ⟨ret_bool' (by rw [HR.out, PB.out k _ (BA.out k hlt) HD.out]), rfl⟩
    · have hall' : Hid (s.data.toList.all isDig = true) := Lib.hid (by have := hall.out; rw [List.take_of_length_le (by rw [hlen.out]; omega)] at this; exact this)
      clear hall
      have hge : s.size ≤ k := by omega
      clear hlt
      by_cases h0 : 0 < s.size
      · have he1 : s.toList.isEmpty = false := by rw [Lib.toList_data]; simp; intro h; have := hlen.out; rw [h] at this; simp at this; omega
        have he2 : (s.data.toList.isEmpty) = false := by rw [← Lib.toList_data]; exact he1
        have hlist : Hid (s.data.toList[0]? = some s[0]) := Lib.hid (byte_at s 0 h0)
        go_wp2
        go_ret
        exact ⟨ret_bool' (by rw [HR.out, PE.out hall'.out _ hlist.out, bne_cast]), rfl⟩
      · have he3 : Hid (s.data.toList = []) := Lib.hid (by apply List.eq_nil_of_length_eq_zero; have := hlen.out; omega)
        have he1 : s.toList.isEmpty = true := by rw [Lib.toList_data, he3.out]; rfl
        have he2 : (s.data.toList.isEmpty) = true := by rw [he3.out]; rfl
        go_wp2
        go_ret
        exact ⟨ret_bool' (by rw [HR.out, PN.out he3.out]), rfl⟩

set_option maxHeartbeats 400000 in
theorem join_low (e : Int) (f : Nat) (w : World) (h0 : -1074 ≤ e) (h1 : e < -1022) (hf : f < 4503599627370496) :
    Calls Tryz.prog 69 #[.int .i64 e, .int .u64 f] w fun e' w' => e' = .returned (.int .u64 (joinF e f)) ∧ w = w' := by
  go_enter Tryz.func69, Tryz.ntmps69
  go_wp2
  go_ret
  refine ⟨ret_int' ?_, rfl⟩
  rw [or_one hf]
  unfold joinF
  rw [if_pos h1]; rfl
set_option maxHeartbeats 400000 in
theorem join_high (e : Int) (f : Nat) (w : World) (h0 : -1022 ≤ e) (h1 : e ≤ 1023) (hf : f < 4503599627370496) :
    Calls Tryz.prog 69 #[.int .i64 e, .int .u64 f] w fun e' w' => e' = .returned (.int .u64 (joinF e f)) ∧ w = w' := by
  go_enter Tryz.func69, Tryz.ntmps69
  go_wp2
  go_ret
  refine ⟨ret_int' ?_, rfl⟩
  obtain ⟨k, hk⟩ := Int.eq_ofNat_of_zero_le (show 0 ≤ e + 1023 by omega)
  rw [hk, or_join (by omega) hf]
  unfold joinF
  rw [if_neg (by omega), hk, Int.toNat_natCast]
theorem join_any (e : Int) (f : Nat) (w : World) (h0 : -1074 ≤ e) (h1 : e ≤ 1023) (hf : f < 4503599627370496) :
    Calls Tryz.prog 69 #[.int .i64 e, .int .u64 f] w fun e' w' => e' = .returned (.int .u64 (joinF e f)) ∧ w = w' := by
  by_cases h : e < -1022
  · exact join_low e f w h0 h hf
  · exact join_high e f w (by omega) h1 hf
end Go.Proofs.YthmgkjfohkadoaaGreatDoor
