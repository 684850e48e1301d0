/- The document's bytes of a value. -/
import Derived.Test.YthnaipgdjbaebaaGreatValEnc
import Derived.IntWalk
import Derived.Deep.Cut
import Derived.Deep.RegionHeld3
import Derived.Deep.RegionLaw
import Derived.BigRegion
namespace Go.Proofs.YthnaipgdjbaebaaGreat
open Go.RowKit
set_option linter.unusedVariables false

/-- a row that grows out of v, away from the blocks between -/
theorem grew_far {w w' : World} {v v' : Value} {lo hi : Nat} (hG : Grew w w' v v') (hlo : ∀ g, v.ownBlock = some g → g < lo) (hhi : hi ≤ w.heap.size) :
    ∀ k, k < w.heap.size → lo ≤ k → w'.heap[k]? = w.heap[k]? := fun k hk hl => hG.1.block k hk fun e => by
      have := hlo k e.symm; omega

set_option maxRecDepth 100000 in
set_option maxHeartbeats 1000000 in
theorem laidNum_any (base : Nat) (v : Value) (bs : List Nat) (k n : Int) (w : World) (h : OB w base 5 v bs) (hB : base ≤ w.heap.size) (hl : bs.length + 8 ≤ 140737488355328) :
    Calls Tryz.prog 113 #[v, .int .i64 k, .int .i64 n] w (Apps base v (bs ++ encNum k n) w) := by
  obtain ⟨i0, hi, hz0, hz1, hz2⟩ := info_parts u8_info
  have hwy := u64_wrap n
  have hul := u64_lt n
  rw [encNum_eq]
  obtain ⟨u, hu⟩ : ∃ u, u = u64 n := ⟨_, rfl⟩
  rw [← hu] at hwy hul ⊢
  have hlo := fun g hg => (h.2.lt g hg).2
  have HLo := Lib.hid hlo
  clear hu hlo
  go_enter Tryz.func113, Tryz.ntmps113
  go_wp2_with fail
  refine (refNum_any 8 u w hul).mono ?_
  rintro e w1 ⟨x1, rfl, hx1, b1⟩
  have hx1 : OB w1 w.heap.size 5 x1 (enc 8 u) := hx1
  obtain ⟨A1, c1, rfl, hcc, -, hr1, hgl⟩ := hx1.form
  rw [enc_length] at hcc ⊢
  have h8 : (enc 8 u).length = 8 := enc_length 8 u
  obtain ⟨b, off, rfl, hb1, hc1⟩ := hr1.all (by omega)
  have hbw : w.heap.size ≤ b := by
    rcases hx1.2.2 with ⟨h0, _⟩ | ⟨g, cap, cur, hv, hbg, _⟩
    · cases h0
    · injection hv with hv; injection hv with hv; injection hv with hv; omega
  have hown := h.below' b1
  have hG : Grew w w1 v v := ⟨⟨b1.os, b1.tape, b1.output, b1.size, fun k hk _ => b1.block k hk⟩, .inl rfl⟩
  have hs1 := b1.size
  by_cases hk : k = 1
  case' pos =>
    subst hk
    have hX : enc (nwid 1).toNat u = enc 1 u := rfl
    have hcell : w1.cell? ⟨b, off + 7, none⟩ = some (.int .u8 ((nth (enc 1 u) 0 : Nat) : Int)) := by
      rw [hc1 7 (by omega)]
      congr 3
    obtain ⟨X, hX'⟩ : ∃ X, X = enc (nwid 1).toNat u := ⟨_, rfl⟩
    rw [← hX'] at hX
    have HX' := Lib.hid hX'
    have HC : Hid (∀ j, j < X.length → w1.cell? ⟨b, off + 7 + j, none⟩ = some (.int .u8 ((nth X j : Nat) : Int))) := Lib.hid fun j hj => by
      rw [hX, enc_length] at hj
      obtain rfl : j = 0 := by omega
      rw [hX]; exact hcell
    have hXl : X.length = 1 := by rw [hX, enc_length]
    have hXb : IsBytes X := by rw [hX]; exact enc_bytes _ _
    clear hcell hX hX' hc1 hr1 hx1 h8 hgl h
    go_wp2_with fail
  case' neg =>
    have hkb : (k == 1) = false := by simpa using hk
    have hX : enc (nwid k).toNat u = enc 8 u := by unfold nwid; rw [if_neg hk]; rfl
    obtain ⟨X, hX'⟩ : ∃ X, X = enc (nwid k).toNat u := ⟨_, rfl⟩
    rw [← hX'] at hX
    have HX' := Lib.hid hX'
    have HC : Hid (∀ j, j < X.length → w1.cell? ⟨b, off + j, none⟩ = some (.int .u8 ((nth X j : Nat) : Int))) := Lib.hid fun j hj => by rw [hX] at hj ⊢; exact hc1 j hj
    have hXl : X.length = 8 := by rw [hX, enc_length]
    have hXb : IsBytes X := by rw [hX]; exact enc_bytes _ _
    clear hX hX' hc1 hr1 hx1 h8 hgl h hk
    go_wp2_with fail
  all_goals
    go_loopw [0, 8] (fun v' i wr => ∃ (j : Nat), j ≤ X.length ∧ i = .int .i64 j ∧ OB wr base 5 v' (bs ++ X.take j) ∧ Grew w1 wr v v') (fun _ i _ => X.length - (intOf i).toNat)
    case atStart => exact ⟨0, Nat.zero_le _, rfl, by simpa using hown, Grew.refl _ _⟩
    case round =>
      obtain ⟨j, hj, rfl, ho, hg⟩ := hrel
      have hs := hg.1.size
      by_cases hlt : j < X.length
      · have hfb : wr.heap[b]? = w1.heap[b]? := grew_far hg HLo.out hs1 b hb1 hbw
        have q := Eq.trans (World.cell?_of_block (w := w1) (w' := wr) (by exact hfb)) (HC.out j hlt)
        have Hst := Lib.hid (take_succ_nth X j hlt)
        have hnl := hXb.nth j
        have hle : (bs ++ X.take j).length + 1 ≤ 140737488355328 := by rw [List.length_append, List.length_take]; omega
        have hbl : b < wr.heap.size := by omega
        clear hfb
        go_wp2_with (at_builtin; refine wpList_append_lit8 _ rfl _ _ 107 rfl base 5 i0 Tryz.underlying107 hi hz0 hz1 hz2 _ _ _ (by rfl) ho (by rfl) _ rfl hnl hle (by omega) ?_; intro v1 w2 hown1 hg1 hat1)
        have hg2 := hg.trans (Grew.of hg1 hat1 (Nat.le_succ _))
        go_roundw
        case rel => exact ⟨j + 1, by omega, by go_num, by rw [Hst.out, ← List.append_assoc]; exact hown1, hg2⟩
        case measure => simp [intOf]; omega
      · obtain rfl : j = X.length := by omega
        rw [List.take_length, HX'.out] at ho
        go_wp2
        go_ret
        exact ⟨_, rfl, ho, hG.trans hg⟩

theorem enc2_small {n : Nat} (h : n < 65536) : enc 2 n = [n / 256, n % 256] := by
  simp [enc]
  omega
theorem strBytes_nth {s : ByteArray} {k : Nat} (h : k < s.size) : nth (strBytes s) k = s[k].toNat := by
  rw [nth_lt (by rw [strBytes_length]; exact h)]
  simp [strBytes]
  rfl

set_option maxRecDepth 100000 in
set_option maxHeartbeats 1000000 in
theorem laid_any (base : Nat) (v : Value) (bs : List Nat) (s : ByteArray) (w : World) (h : OB w base 5 v bs) (hB : base ≤ w.heap.size) (hl : bs.length + 1002 ≤ 140737488355328) (hs : s.size ≤ 1000) :
    Calls Tryz.prog 114 #[v, .string s] w (Apps base v (bs ++ encTxt s) w) := by
  obtain ⟨i0, hi, hz0, hz1, hz2⟩ := info_parts u8_info
  have hE : encTxt s = [s.size / 256, s.size % 256] ++ strBytes s := by unfold encTxt; rw [enc2_small (by omega)]
  rw [hE]
  have hw1 : IntKind.u8.wrap ((s.size : Int) / 256) = ((s.size / 256 : Nat) : Int) := by rw [wrapU8]; omega
  have hw2 : IntKind.u8.wrap ((s.size : Int) % 256) = ((s.size % 256 : Nat) : Int) := by rw [wrapU8]; omega
  have HS := Lib.hid (strBytes_length s)
  have HSB := Lib.hid (strBytes_is s)
  have HNT : Hid (∀ (k : Nat) (h : k < s.size), nth (strBytes s) k = s[k].toNat) := Lib.hid fun k h => strBytes_nth h
  obtain ⟨X, hX⟩ : ∃ X, X = strBytes s := ⟨_, rfl⟩
  rw [← hX] at HS HSB HNT ⊢
  have hX2 : IsBytes [s.size / 256, s.size % 256] := by intro x hx; simp at hx; omega
  have hXl : X.length = s.size := HS.out
  have HXl := Lib.hid hXl
  clear hE hX hXl
  obtain ⟨A0, c0, rfl, -, -, -, -⟩ := h.form
  go_enter Tryz.func114, Tryz.ntmps114
  go_wp2_with (at_builtin; refine wpList_append_bytes _ rfl (.tmp 6) (.tmp 15) 107 rfl base 5 i0 Tryz.underlying107 hi hz0 hz1 hz2 (.slice A0 bs.length c0) bs (by rfl) (h.alloc _) (some ⟨w.heap.size, 0, none⟩) 2 (w.heap.size + 1) [s.size / 256, s.size % 256] 2 rfl (by rfl) (RB.lit w 5 hX2 _ rfl) (by omega) (by simp; omega) ?_; intro v1 w1 hown1 hg1 hat1)
  have hG : Grew w w1 (.slice A0 bs.length c0) v1 := ⟨(World.grownBy_alloc w _ _).trans hg1, hat1.elim .inl fun e => .inr ⟨_, e, by simp⟩⟩
  have hs1 := hG.1.size
  clear hg1 hat1 h
  go_loopw [0, 5] (fun v' i wr => ∃ (j : Nat), j ≤ s.size ∧ i = .int .i64 j ∧ OB wr base 5 v' (bs ++ [s.size / 256, s.size % 256] ++ X.take j) ∧ Grew w1 wr v1 v') (fun _ i _ => s.size - (intOf i).toNat)
  case atStart => exact ⟨0, Nat.zero_le _, rfl, by simpa using hown1, Grew.refl _ _⟩
  case round =>
    obtain ⟨j, hj, rfl, ho, hg⟩ := hrel
    have hs := hg.1.size
    by_cases hlt : j < s.size
    · have Hst := Lib.hid (take_succ_nth X j (by rw [HXl.out]; exact hlt))
      have hnl := HSB.out.nth j
      have hle : (bs ++ [s.size / 256, s.size % 256] ++ X.take j).length + 1 ≤ 140737488355328 := by
        have := HXl.out
        rw [List.length_append, List.length_append, List.length_take]; simp; omega
      have Hq : Hid (((s[j].toNat : Nat) : Int) = ((nth X j : Nat) : Int)) := Lib.hid (by rw [HNT.out j hlt])
      go_wp2_with (at_builtin; refine wpList_append_lit8 _ rfl (.tmp 23) (.tmp 27) 107 rfl base 5 i0 Tryz.underlying107 hi hz0 hz1 hz2 _ _ _ (by rfl) ho (by rfl) _ Hq.out hnl hle (by omega) ?_; intro v2 w2 hown2 hg2 hat2)
      have hg3 := hg.trans (Grew.of hg2 hat2 (Nat.le_succ _))
      go_roundw
      case rel => exact ⟨j + 1, by omega, by go_num, by rw [Hst.out, ← List.append_assoc]; exact hown2, hg3⟩
      case measure => simp [intOf]; omega
    · obtain rfl : j = s.size := by omega
      rw [List.take_of_length_le (by rw [HXl.out]; omega), List.append_assoc] at ho
      go_wp2
      go_ret
      exact ⟨_, rfl, ho, hG.trans hg⟩

end Go.Proofs.YthnaipgdjbaebaaGreat
