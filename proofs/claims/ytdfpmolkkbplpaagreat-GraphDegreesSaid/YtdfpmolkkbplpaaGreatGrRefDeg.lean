/- The document's Degree. -/
import Derived.Test.YtdfpmolkkbplpaaGreatGrBase
import Derived.IntWalk
namespace Go.Proofs.YtdfpmolkkbplpaaGreat
open Go.RowKit
set_option linter.unusedVariables false

set_option maxRecDepth 100000 in
set_option maxHeartbeats 1000000 in
theorem refDegree_any (A A' : Option Addr) (m c cap B : Nat) (L : List Rv) (n : Int) (w : World) (h : RelsR w B A' L) (hB : B ≤ w.heap.size) (hl : L.length ≤ 140737488351232) (hn : i64ok n) :
    Calls Tryz.prog 26 #[.agg #[.slice A m c, .slice A' L.length cap], .int .i64 n] w fun e w' => e = .returned (.int .i64 ((touchIds L n).length : Int)) ∧ Below w.heap.size w w' := by
  obtain ⟨wo, hwo⟩ : ∃ x, x = w.alloc (.cells #[.slice A m c, .slice A' L.length cap] 27) := ⟨_, rfl⟩
  have hbo : Below w.heap.size w wo := by rw [hwo]; exact (Below.refl _ _).alloc (Nat.le_refl _) _
  have Bg : Blk wo w.heap.size 27 #[.slice A m c, .slice A' L.length cap] := by rw [hwo]; exact Blk.new _ _ _
  have H := Lib.hid (h.below (hbo.mono hB))
  have hlt := Bg.lt
  have g1 : wo.cell? ⟨w.heap.size, 1, none⟩ = some (.slice A' L.length cap) := by rw [Bg.cell 1]; rfl
  have Hwo := Lib.hid hwo
  clear hwo h Bg
  go_enter Tryz.func26, Tryz.ntmps26
  go_wp2
  rw [← Hwo.out]
  go_loopw [5, 6] (fun s i wr => ∃ (k t : Nat), k ≤ L.length ∧ i = .int .i64 k ∧ s = .int .i64 t ∧ t = (touchIds (L.take k) n).length ∧ wr = wo) (fun _ i _ => L.length - (intOf i).toNat)
  case atStart => exact ⟨0, 0, Nat.zero_le _, rfl, rfl, rfl, rfl⟩
  case round =>
    obtain ⟨k, t, hk, rfl, rfl, ht, rfl⟩ := hrel
    by_cases hlt2 : k < L.length
    · have hs := touchIds_snoc (L.take k) (nthR L k) n
      rw [← takeR hlt2] at hs
      have htl : t ≤ k := by have := touchIds_len (L.take k) n; rw [List.length_take] at this; omega
      obtain ⟨b, off, rfl, hbB, A2, c2, hc, -, ⟨r1, r2⟩, ⟨r3, r4⟩, ⟨r5, r6⟩, -⟩ := H.out k _ (nthR_get hlt2)
      generalize nthR L k = r at *
      obtain ⟨rid, rty, rsrc, rdst, rps⟩ := r
      obtain ⟨q0, q1, q2, q3, q4⟩ := rel_cells hc
      simp only at q0 q1 q2 q3 q4 r3 r4 r5 r6
      have hi0 : (0 : Int) ≤ (k : Int) := by omega
      have hi1 : (k : Int) < (L.length : Int) := by omega
      by_cases h2 : rsrc = n
      · have e2 : (rsrc == n) = true := by simpa using h2
        have Hs : Hid (t + 1 = (touchIds (L.take (k + 1)) n).length) := Lib.hid (by rw [hs, if_pos (by simp [touch, h2]), List.length_append, ← ht]; rfl)
        clear h2 hs ht hc
        go_wp2
        go_roundw
        case rel => exact ⟨k + 1, t + 1, by omega, by go_num, by go_num, Hs.out, trivial⟩
        case measure => simp [intOf]; omega
      · have e2 : (rsrc == n) = false := by simpa using h2
        by_cases h3 : rdst = n
        · have e3 : (rdst == n) = true := by simpa using h3
          have Hs : Hid (t + 1 = (touchIds (L.take (k + 1)) n).length) := Lib.hid (by rw [hs, if_pos (by simp [touch, h3]), List.length_append, ← ht]; rfl)
          clear h2 h3 hs ht hc
          go_wp2
          go_roundw
          case rel => exact ⟨k + 1, t + 1, by omega, by go_num, by go_num, Hs.out, trivial⟩
          case measure => simp [intOf]; omega
        · have e3 : (rdst == n) = false := by simpa using h3
          have Hs : Hid (t = (touchIds (L.take (k + 1)) n).length) := Lib.hid (by rw [hs, if_neg (by simp [touch, h2, h3]), ← ht])
          clear h2 h3 hs ht hc
          go_wp2
          go_roundw
          case rel => exact ⟨k + 1, t, by omega, by go_num, rfl, Hs.out, trivial⟩
          case measure => simp [intOf]; omega
    · obtain rfl : k = L.length := by omega
      rw [List.take_length] at ht
      have Ht := Lib.hid ht
      clear ht
      go_wp2
      go_ret
      exact ⟨by rw [← Ht.out]; rfl, hbo⟩

end Go.Proofs.YtdfpmolkkbplpaaGreat
