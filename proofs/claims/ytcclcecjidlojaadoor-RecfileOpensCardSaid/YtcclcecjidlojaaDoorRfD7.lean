/- recfile: the law's spoil. -/
import Derived.Test.YtcclcecjidlojaaDoorRfD5
import Derived.Test.YtcclcecjidlojaaDoorRfD6
namespace Go.Proofs.YtcclcecjidlojaaDoor
open Go.RowKit
set_option linter.unusedVariables false
set_option maxRecDepth 100000 in
set_option maxHeartbeats 1000000 in
/-- what is spoilt is the list's own -/
theorem spoil9 {S0 : Fp} {l : List Ass} [Stable (Sep l)] {w0 w : World} {A : Option Addr} {n cap : Nat} {bs : List Nat} (h : St S0 (ObA 5 (.slice A n cap) bs :: l) w0 w) (hn : bs.length = n) (hl : n ≤ 140737488351232) :
    Calls Tryd.prog 21 #[.slice A n cap] w fun e w' => e = .returned (.tuple #[]) ∧ St S0 l w0 w' := by
  obtain ⟨i0, hi, hz0, hz1, hz2⟩ := info_parts u8_info
  have HH := Lib.hid h
  have HN := Lib.hid hn
  have HL := Lib.hid hl
  have hnI : (n : Int) ≤ 140737488351232 := by omega
  clear h hn hl
  go_enter Tryd.func21, Tryd.ntmps21
  go_wp2
  go_loopw [6] (fun i wr => ∃ (k : Nat) (b' : List Nat), k ≤ n ∧ i = .int .i64 k ∧ b'.length = n ∧ St S0 (ObA 5 (.slice A n cap) b' :: l) w0 wr) (fun i _ => n - (intOf i).toNat)
  case atStart => exact ⟨0, bs, Nat.zero_le _, rfl, HN.out, HH.out⟩
  case round =>
    obtain ⟨k, b', hk, rfl, hb, hst⟩ := hrel
    by_cases hlt : k < n
    · obtain ⟨g, hA, ⟨u0, hu0⟩, hfz, hst2⟩ := hst.storeObB hb hlt 238 (by decide)
      subst hA
      have H2 := Lib.hid hst2
      have HB : Hid ((b'.set k 238).length = n) := Lib.hid (by rw [List.length_set, hb])
      have hkI : (k : Int) < (n : Int) := by omega
      clear hst hst2 hb hk
      go_wp2
      go_roundw
      case rel => exact ⟨k + 1, _, hlt, by go_num, HB.out, H2.out⟩
      case measure => exact meas_lt hlt
    · obtain rfl : n = k := by omega
      have H2 := Lib.hid hst
      have HB := Lib.hid hb
      clear hst hb hk hlt
      go_wp2
      go_loopw [0, 3] (fun u i wr => ∃ (k : Nat) (b' : List Nat), k ≤ 16 ∧ i = .int .i64 k ∧ b'.length = n + k ∧ St S0 (ObA 5 u b' :: l) w0 wr) (fun _ i _ => 16 - (intOf i).toNat)
      case atStart => exact ⟨0, b', Nat.zero_le _, rfl, HB.out, H2.out⟩
      case round =>
        obtain ⟨k, b', hk, rfl, hb, hst⟩ := hrel
        obtain ⟨A2, c2, hA2, -, -, -, -⟩ := hst.ob.form
        rw [hb] at hA2
        subst hA2
        by_cases hlt : k < 16
        · have H3 := Lib.hid hst
          have HB3 : Hid ((b' ++ [238]).length = n + (k + 1)) := Lib.hid (by rw [List.length_append, hb]; rfl)
          have HL3 : Hid (b'.length + 1 ≤ 140737488355328) := Lib.hid (by have := HL.out; omega)
          have hkI : (k : Int) < 16 := by omega
          clear hst hb hk
          go_wp2_with (at_builtin; refine wpList_append_lit8 _ rfl _ _ 34 rfl 0 5 i0 Tryd.underlying34 hi hz0 hz1 hz2 (.slice A2 (n + k) c2) b' 238 (by rfl) H3.out.ob (by rfl) _ rfl (by decide) HL3.out (Nat.zero_le _) ?_; intro v8 w8 hown8 hg8 hat8; have H8 := Lib.hid (H3.out.grewOb hown8 hg8 hat8 (by simp)); clear hown8 hg8 hat8)
          go_roundw
          case rel => exact ⟨k + 1, _, hlt, by go_num, HB3.out, H8.out⟩
          case measure => exact meas_lt hlt
        · have H3 := Lib.hid hst.drop
          have hkI : ¬ (k : Int) < 16 := by omega
          clear hst hb hk
          go_wp2
          go_end0
          exact ⟨rfl, H3.out⟩
end Go.Proofs.YtcclcecjidlojaaDoor
