/- Contracts of the document's own Num and Set. -/
import Derived.Test.YtgpahglmhnnobaaGreatDoorSpoil
namespace Go.Proofs.YtgpahglmhnnobaaGreatDoor
open Go.RowKit
set_option linter.unusedVariables false

/-- n without its last i bytes -/
def sh (n i : Nat) : Nat := n / 256 ^ i
theorem sh_zero (n : Nat) : sh n 0 = n := by simp [sh]
theorem sh_succ (n i : Nat) : sh n i / 256 = sh n (i + 1) := by unfold sh; rw [Nat.div_div_eq_div_mul, Nat.pow_succ]
theorem sh_le (n i : Nat) : sh n i ≤ n := Nat.div_le_self _ _
theorem enc_split (k n i : Nat) (h : i < k) : (enc k n).drop i = sh n (k - (i + 1)) % 256 :: (enc k n).drop (i + 1) := by
  rw [drop_nth _ _ (by rw [enc_length]; exact h), enc_nth k n i h, show k - 1 - i = k - (i + 1) from by omega]
  rfl
theorem num_set (k n i : Nat) (h : i < k) : (List.replicate (i + 1) 0 ++ (enc k n).drop (i + 1)).set i (sh n (k - (i + 1)) % 256) = List.replicate i 0 ++ (enc k n).drop i := by
  rw [enc_split k n i h, List.replicate_succ', List.append_assoc, List.set_append_right _ _ (by simp), List.length_replicate, Nat.sub_self]
  rfl

set_option maxRecDepth 100000 in
set_option maxHeartbeats 1000000 in
theorem refNum_any (width : Int) (n : Nat) (w : World) (hn : n < 18446744073709551616) :
    Calls Tryz.prog 23 #[.int .i64 width, .int .u64 n] w (NewB (if isW width = true then enc width.toNat n else []) w) := by
  obtain ⟨i0, hi, hz0, hz1, hz2⟩ := info_parts u8_info
  by_cases h1 : isW width = false
  · have Hwid := Lib.hid (refWidth_any width (w.alloc (.cells #[] 5)))
    rw [h1] at Hwid
    have hp : (if isW width = true then enc width.toNat n else []) = [] := by rw [h1]; rfl
    rw [hp]
    clear hp h1
    go_enter Tryz.func23, Tryz.ntmps23
    go_wp2_with (go_at_call 44; refine (Hwid.out).mono ?_; rintro e w' ⟨rfl, rfl⟩)
    go_ret
    exact ⟨_, rfl, ⟨IsBytes.nil, World.ownsRow_lit w #[] 0 (Nat.le_refl _) (Nat.zero_le _) rfl⟩, (Below.refl _ _).alloc (Nat.le_refl _) _⟩
  · have h1 : isW width = true := by simpa using h1
    have hwd : width = 1 ∨ width = 2 ∨ width = 4 ∨ width = 8 := of_decide_eq_true h1
    obtain ⟨d, rfl⟩ : ∃ d : Nat, width = d := ⟨width.toNat, by omega⟩
    have hd : 1 ≤ d ∧ d ≤ 8 := by omega
    rw [if_pos h1, Int.toNat_natCast]
    have Hwid := Lib.hid (refWidth_any (d : Int) (w.alloc (.cells #[] 5)))
    rw [h1] at Hwid
    clear hwd h1
    go_enter Tryz.func23, Tryz.ntmps23
    go_wp2_with (go_at_call 44; refine (Hwid.out).mono ?_; rintro e w' ⟨rfl, rfl⟩)
    go_loopw [5, 6] (fun v i wr => ∃ k : Nat, k ≤ d ∧ i = .int .i64 k ∧ OB wr w.heap.size 5 v (List.replicate k 0) ∧ Below w.heap.size w wr) (fun _ i _ => d - (intOf i).toNat)
    case atStart => exact ⟨0, Nat.zero_le _, rfl, ⟨IsBytes.nil, World.ownsRow_lit w #[] 0 (Nat.le_refl _) (Nat.zero_le _) rfl⟩, (Below.refl _ _).alloc (Nat.le_refl _) _⟩
    case round =>
      obtain ⟨k, hk, rfl, hown, hbw⟩ := hrel
      by_cases hlt : k < d
      · go_wp2_with (at_builtin; refine wpList_append_lit8 _ rfl _ _ 25 rfl w.heap.size 5 i0 Tryz.underlying25 hi hz0 hz1 hz2 _ (List.replicate k 0) 0 (by rfl) hown (by rfl) _ rfl (by omega) (by rw [List.length_replicate]; omega) hbw.size ?_; intro v1 w1 hown1 hg1 hat1)
        have hbw1 := hown.belowTo hbw (Nat.le_refl _) hg1 hbw.size
        rw [show [0] = List.replicate 1 0 from rfl, replicate_add'] at hown1
        go_roundw
        case rel => exact ⟨k + 1, by omega, by go_num, hown1, hbw1⟩
        case measure => simp [intOf]; omega
      · obtain rfl : k = d := by omega
        obtain ⟨wo, rfl⟩ : ∃ wo : World, wo = wr := ⟨_, rfl⟩
        obtain ⟨A, c, rfl, hc, hcm, -, -⟩ := hown.form
        rw [List.length_replicate] at hown hc
        simp only [List.length_replicate]
        go_wp2
        go_loopw [1, 7] (fun m i wr => ∃ j : Nat, j ≤ k ∧ i = .int .i64 ((j : Int) - 1) ∧ m = .int .u64 ((sh n (k - j) : Nat) : Int) ∧ OB wr w.heap.size 5 (.slice A k c) (List.replicate j 0 ++ (enc k n).drop j) ∧ Below w.heap.size w wr) (fun _ i _ => (intOf i + 1).toNat)
        case atStart => exact ⟨k, Nat.le_refl _, rfl, by rw [Nat.sub_self, sh_zero], by rw [List.drop_of_length_le (by rw [enc_length]; exact Nat.le_refl _), List.append_nil]; exact hown, hbw⟩
        case round =>
          obtain ⟨j, hj, rfl, rfl, hown2, hb2⟩ := hrel
          by_cases hj0 : 0 < j
          · obtain ⟨i, rfl⟩ : ∃ i, j = i + 1 := ⟨j - 1, by omega⟩
            have hln : (List.replicate (i + 1) 0 ++ (enc k n).drop (i + 1)).length = k := by simp [enc_length]; omega
            obtain ⟨g, c', hv, _, hgl⟩ := hown2.2.form (by rw [hln]; omega)
            simp only [Value.slice.injEq] at hv
            obtain ⟨rfl, -, -⟩ := hv
            have hfz : wr.frozen? ⟨g, i, none⟩ = false := by
              have := hown2.2
              rw [hln] at this
              exact this.frozenAt i
            obtain ⟨u, hu⟩ : ∃ u, wr.cell? ⟨g, i, none⟩ = some u := by
              have h1 : i < (cells8 (List.replicate (i + 1) 0 ++ (enc k n).drop (i + 1))).length := by rw [cells8_length, hln]; omega
              have := hown2.2.cells (g := g) rfl i _ (List.getElem?_eq_getElem h1)
              rw [add_none, Nat.zero_add] at this
              exact ⟨_, this⟩
            have hst := OB.stored (k := i) (m := sh n (k - (i + 1)) % 256) (by rw [hln]; exact hown2) (by omega)
            rw [num_set k n i (by omega), hln] at hst
            have hm := sh_le n (k - (i + 1))
            have hq : sh n (k - i) = sh n (k - (i + 1)) / 256 := by rw [sh_succ, show k - (i + 1) + 1 = k - i from by omega]
            rw [show ((sh n (k - (i + 1)) % 256 : Nat) : Int) = (sh n (k - (i + 1)) : Int) % 256 from by omega] at hst
            have Hst := Lib.hid hst
            have Hq := Lib.hid hq
            clear hst hln hq
            have hb3 : Hid (Below w.heap.size w (wr.setCell ⟨g, i, none⟩ (.int .u8 ((sh n (k - (i + 1)) : Int) % 256)))) := Lib.hid (hb2.setCell (by assumption) _)
            go_wp2
            go_roundw
            case rel => exact ⟨i, by omega, rfl, int_eq (by rw [Hq.out]; omega), Hst.out.1, hb3.out⟩
            case measure => simp [intOf]
          · obtain rfl : j = 0 := by omega
            go_wp2
            go_ret
            exact ⟨_, rfl, by simpa [OB, enc_length] using hown2, hb2⟩

end Go.Proofs.YtgpahglmhnnobaaGreatDoor
