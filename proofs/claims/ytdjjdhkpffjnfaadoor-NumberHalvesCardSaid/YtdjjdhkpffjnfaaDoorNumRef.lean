/- Layer 5, the document's own answer: digits, whole numbers. -/
import Derived.Test.YtdjjdhkpffjnfaaDoorNumSpeak
import Derived.Laws.BytesArg
namespace Go.Proofs.YtdjjdhkpffjnfaaDoor
open Go.RowKit
set_option linter.unusedVariables false

theorem nd_le : ∀ (k n : Nat), n < 10 ^ (k + 1) → Lib.nDigits n ≤ k + 1
  | 0, n, h => by rw [Lib.nDigits_small (by simpa using h)]; omega
  | k + 1, n, h => by
    by_cases h1 : n < 10
    · rw [Lib.nDigits_small h1]; omega
    · rw [Lib.nDigits_big h1]
      have := nd_le k (n / 10) (by rw [Nat.pow_succ] at h; omega)
      omega
theorem dd_len20 {n : Nat} (h : n < 18446744073709551616) : (Lib.decDigits n).length ≤ 20 := by
  rw [Lib.decDigits_length]; exact nd_le 19 n (by omega)

/-- one byte, made a string -/
theorem one_str (w : World) (d : Int) : (convert 50 9 (.slice (some ⟨w.heap.size, 0, none⟩) 1 1)).run Tryd.prog (w.alloc (.cells #[.int .u8 d] 5)) = .ok (.string ⟨#[UInt8.ofNat d.toNat]⟩) (w.alloc (.cells #[.int .u8 d] 5)) := by
  have := run_convert_bytes_arg (P := Tryd.prog) (w.alloc (.cells #[.int .u8 d] 5)) 50 5 Tryd.underlying50 Tryd.underlying5 w.heap.size 0 1 1 [d] rfl (fun i hi => by
    obtain rfl : i = 0 := by omega
    rw [(Blk.new w 5 #[.int .u8 d]).cell]; rfl) 9 Tryd.underlying9
  exact this

set_option maxRecDepth 100000 in
set_option maxHeartbeats 1000000 in
theorem refDigits (n : Nat) (w : World) (h : n < 18446744073709551616) :
    Calls Tryd.prog 23 #[.int .u64 n] w fun e w' => e = .returned (.string ⟨(Lib.decDigits n).toArray⟩) ∧ Below w.heap.size w w' := by
  have hi : (n : Int) < 18446744073709551616 := by omega
  have hlen := dd_len20 h
  obtain ⟨L, hL⟩ : ∃ L, L = Lib.decDigits n := ⟨_, rfl⟩
  rw [← hL] at hlen ⊢
  have HL := Lib.hid hL
  clear hL h
  go_enter Tryd.func23, Tryd.ntmps23
  go_wp2
  go_loopw [0, 3] (fun u s wr => ∃ (m : Nat) (S : ByteArray), u = .int .u64 (m : Int) ∧ s = .string S ∧ (m : Int) < 18446744073709551616 ∧ S.size ≤ 20 ∧ Hid (∃ l, S = ⟨l.toArray⟩ ∧ Lib.decDigits m ++ l = L) ∧ Below w.heap.size w wr) (fun u _ _ => (intOf u).toNat)
  case atStart => exact ⟨n, ⟨#[]⟩, rfl, rfl, hi, by decide, Lib.hid ⟨[], rfl, by rw [HL.out]; simp⟩, Below.refl _ _⟩
  case round =>
    obtain ⟨m, S, rfl, rfl, hm, hS, hl, hb⟩ := hrel
    by_cases h10 : (10 : Int) ≤ (m : Int)
    · have hcv := one_str wr (48 + (m : Int) % 10)
      obtain ⟨c, hc⟩ : ∃ c, c = UInt8.ofNat (48 + (m : Int) % 10).toNat := ⟨_, rfl⟩
      rw [← hc] at hcv
      have hnx : Hid (∃ l, (⟨#[c]⟩ ++ S : ByteArray) = ⟨l.toArray⟩ ∧ Lib.decDigits (m / 10) ++ l = L) := Lib.hid (by
        obtain ⟨l, e1, e2⟩ := hl.out
        refine ⟨c :: l, by rw [e1]; exact app_str [_] l, ?_⟩
        rw [← e2, dd_big (n := m) (by omega), List.append_assoc, hc, show (48 + (m : Int) % 10).toNat = 48 + m % 10 by omega]
        rfl)
      have hsz : Hid ((⟨#[c]⟩ ++ S : ByteArray).size ≤ 20) := Lib.hid (by
        obtain ⟨l, e1, e2⟩ := hnx.out
        rw [e1, str_size]
        have := congrArg List.length e2
        rw [List.length_append] at this; omega)
      clear hc
      go_wp2
      go_roundw
      case rel => exact ⟨m / 10, _, by go_num, rfl, by omega, hsz.out, hnx, hb.alloc hb.size _⟩
      case measure => simp [intOf]; omega
    · have h10' : (m : Int) < 10 := by omega
      have hcv := one_str wr (48 + (m : Int))
      obtain ⟨c, hc⟩ : ∃ c, c = UInt8.ofNat (48 + (m : Int)).toNat := ⟨_, rfl⟩
      rw [← hc] at hcv
      have hfin : Hid ((⟨#[c]⟩ ++ S : ByteArray) = ⟨L.toArray⟩) := Lib.hid (by
        obtain ⟨l, e1, e2⟩ := hl.out
        rw [← e2, dd_small (n := m) (by omega), e1, hc, show (48 + (m : Int)).toNat = 48 + m by omega]
        exact app_str [_] l)
      have hm0 : (0 : Int) ≤ (m : Int) := by omega
      clear h10 hc hm hi
      go_wp2
      go_ret
      exact ⟨ret_str' hfin.out, hb.alloc hb.size _⟩
end Go.Proofs.YtdjjdhkpffjnfaaDoor
