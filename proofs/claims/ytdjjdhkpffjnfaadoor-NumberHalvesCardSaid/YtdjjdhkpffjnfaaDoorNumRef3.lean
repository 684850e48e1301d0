/- Layer 5, the document's own answer: floats written. -/
import Derived.Test.YtdjjdhkpffjnfaaDoorNumRef2
namespace Go.Proofs.YtdjjdhkpffjnfaaDoor
open Go.RowKit
set_option linter.unusedVariables false

theorem hexd_lo {D : Nat} (h : D < 10) : UInt8.ofNat (48 + (D : Int)).toNat = hexd D := by
  unfold hexd; rw [if_pos h, show (48 + (D : Int)).toNat = 48 + D by omega]
theorem hexd_hi {D : Nat} (h : ¬ D < 10) (h2 : D < 16) : UInt8.ofNat (97 + (D : Int) - 10).toNat = hexd D := by
  unfold hexd; rw [if_neg h, show (97 + (D : Int) - 10).toNat = 87 + D by omega]

set_option maxRecDepth 100000 in
set_option maxHeartbeats 1000000 in
theorem refHex (f : Nat) (w : World) (h : f < 4503599627370496) :
    Calls Tryd.prog 28 #[.int .u64 f, .int .i64 13] w fun e w' => e = .returned (.string ⟨(hexN f 13).toArray⟩) ∧ Below w.heap.size w w' := by
  have hf : Hid ((f : Int) < 4503599627370496) := Lib.hid (by omega)
  clear h
  go_enter Tryd.func28, Tryd.ntmps28
  go_wp2
  go_loopw [0, 5, 6] (fun u s i wr => ∃ (j : Nat) (V : Int) (S : ByteArray), j ≤ 13 ∧ u = .int .u64 V ∧ 0 ≤ V ∧ V < 4503599627370496 ∧ s = .string S ∧ S.size ≤ 13 ∧ i = .int .i64 j ∧ Hid (V = ((f / 16 ^ j : Nat) : Int) ∧ S = ⟨(hexN f j).toArray⟩) ∧ Below w.heap.size w wr) (fun _ _ i _ => 13 - (intOf i).toNat)
  case atStart => exact ⟨0, f, ⟨#[]⟩, by omega, rfl, by omega, hf.out, rfl, by decide, rfl, Lib.hid ⟨by simp, rfl⟩, Below.refl _ _⟩
  case round =>
    obtain ⟨j, V, S, hj, rfl, v0, v1, rfl, hS, rfl, hr, hb⟩ := hrel
    clear hf
    by_cases hlt : j < 13
    · obtain ⟨D, hD⟩ : ∃ D : Nat, (D : Int) = V % 16 := ⟨(V % 16).toNat, by omega⟩
      have hD16 : D < 16 := by omega
      have hnx : Hid ((⟨#[hexd D]⟩ ++ S : ByteArray) = ⟨(hexN f (j + 1)).toArray⟩) := Lib.hid (by
        rw [hr.out.2, hexN_front, show f / 16 ^ j % 16 = D by have := hr.out.1; omega]
        exact app_str [_] _)
      have hsz : Hid ((⟨#[hexd D]⟩ ++ S : ByteArray).size ≤ 13) := Lib.hid (by rw [hnx.out, str_size, hexN_len]; omega)
      have hv : Hid (V / 16 = ((f / 16 ^ (j + 1) : Nat) : Int)) := Lib.hid (by rw [hr.out.1, Nat.pow_succ, ← Nat.div_div_eq_div_mul]; rfl)
      have hDI : V % 16 = (D : Int) := hD.symm
      by_cases h10 : D < 10
      · have hcv := one_str wr (48 + V % 16)
        rw [show UInt8.ofNat (48 + V % 16).toNat = hexd D by rw [hDI]; exact hexd_lo h10] at hcv
        obtain ⟨c, hc⟩ : ∃ c, c = hexd D := ⟨_, rfl⟩
        rw [← hc] at hcv hnx hsz
        have h9 : V % 16 ≤ 9 := by omega
        clear hc h10 hD hDI hD16
        go_wp2
        go_roundw
        case rel => exact ⟨j + 1, _, _, by omega, rfl, by omega, by omega, rfl, hsz.out, by go_num, Lib.hid ⟨hv.out, hnx.out⟩, hb.alloc hb.size _⟩
        case measure => simp [intOf]; omega
      · have hcv := one_str wr (97 + V % 16 - 10)
        rw [show UInt8.ofNat (97 + V % 16 - 10).toNat = hexd D by rw [hDI]; exact hexd_hi h10 hD16] at hcv
        obtain ⟨c, hc⟩ : ∃ c, c = hexd D := ⟨_, rfl⟩
        rw [← hc] at hcv hnx hsz
        have h9 : 9 < V % 16 := by omega
        clear hc h10 hD hDI hD16
        go_wp2
        go_roundw
        case rel => exact ⟨j + 1, _, _, by omega, rfl, by omega, by omega, rfl, hsz.out, by go_num, Lib.hid ⟨hv.out, hnx.out⟩, hb.alloc hb.size _⟩
        case measure => simp [intOf]; omega
    · obtain rfl : j = 13 := by omega
      clear hlt
      go_wp2
      go_ret
      exact ⟨ret_str' hr.out.2, hb⟩
end Go.Proofs.YtdjjdhkpffjnfaaDoor
