/- The document's LabelsRight, LabelBytes, SameInts. -/
import Derived.Test.YtpoaokkmmoeekaaRcPureNode
import Derived.Test.YtpoaokkmmoeekaaRcRefA
import Derived.Test.YtpoaokkmmoeekaaApList
namespace Go.Proofs.Ytpoaokkmmoeekaa
open Go.RowKit
set_option linter.unusedVariables false

def prevI (L : List Int) (k : Nat) : Int := if k = 0 then -1 else nthI L (k - 1)
set_option maxRecDepth 100000 in
set_option maxHeartbeats 4000000 in
theorem LabelsRight_any (A : Option Addr) (cap B : Nat) (L : List Int) (w : World) (h : RL ivl w B A L) (hc : L.length ≤ cap) (hm : cap ≤ maxLen) :
    Calls Try.prog 29 #[.slice A L.length cap] w fun e w' => e = .returned (.bool (labR L)) ∧ ∃ n, w' = w.drewN n := by
  unfold maxLen at hm
  unfold labR
  go_enter Try.func29, Try.ntmps29
  go_wp2
  go_loopw [3] (fun i wr => ∃ k : Nat, k ≤ L.length ∧ i = .int .i64 k ∧ okTo (prevI L k) (L.drop k) = okTo (-1) L ∧ Hid (∃ n, wr = w.drewN n)) (fun i _ => L.length - (intOf i).toNat)
  case atStart => exact ⟨0, Nat.zero_le _, rfl, rfl, Lib.hid ⟨0, rfl⟩⟩
  case round =>
    obtain ⟨k, hk, rfl, heq, HW⟩ := hrel
    have h : RL ivl wr B A L := by obtain ⟨n, hn⟩ := HW.out; rw [hn]; exact h
    have HX : Hid (∀ m, ∃ n, wr.drewN m = w.drewN n) := Lib.hid fun m => by obtain ⟨n, hn⟩ := HW.out; exact ⟨n + m, by rw [hn]; exact World.drewN_drewN _ _ _⟩
    by_cases hlt : k < L.length
    · obtain ⟨b, off, rfl, hb, hcell⟩ := h.allI (by omega)
      have hc1 := hcell k hlt
      rw [dropI hlt, okTo] at heq
      have hnx : prevI L (k + 1) = nthI L k := by unfold prevI; rw [if_neg (by omega)]; rfl
      obtain ⟨x, hx⟩ : ∃ x, x = nthI L k := ⟨_, rfl⟩
      rw [← hx] at hc1 heq hnx
      have HI := fun w1 => Lib.hid (In_any x 0 200 w1)
      obtain ⟨bx, hbx⟩ : ∃ b, b = inR 0 200 x := ⟨_, rfl⟩
      rw [← hbx] at HI heq
      cases bx
      · have Hn : Hid ((false : Bool) = (okTo (-1) L && decide (L.length < 9))) := Lib.hid (by rw [← heq]; rfl)
        clear heq hbx hx hcell hnx
        go_wp2
        go_quiet ((go_at_call 28; exact Calls.quiet_of_same ((HI _).out.mono fun e w' h => ⟨h.1, h.2.symm⟩)))
        go_wp2
        go_ret
        exact ⟨ret_bool Hn.out, HX.out _⟩
      · have hx0 : 0 ≤ x := ((inR_iff 0 200 x).1 hbx.symm).1
        by_cases hk0 : k = 0
        · have Hn : Hid (okTo (prevI L (k + 1)) (L.drop (k + 1)) = okTo (-1) L) := Lib.hid (by
            rw [hnx, ← heq]
            unfold prevI
            rw [if_pos hk0, decide_eq_true (by omega : (-1 : Int) < x)]
            rfl)
          have hneg : decide ((0 : Int) < (k : Int)) = false := decide_eq_false (by omega)
          have hneg' : decide (0 < k) = false := decide_eq_false (by omega)
          clear hk0
          clear heq hbx hx hcell hnx hx0
          go_wp2
          go_quiet ((go_at_call 28; exact Calls.quiet_of_same ((HI _).out.mono fun e w' h => ⟨h.1, h.2.symm⟩)))
          go_wp2
          go_roundw
          case rel => exact ⟨k + 1, by omega, by go_num, Hn.out, Lib.hid (HX.out _)⟩
          case measure => simp [intOf]; omega
        · have hc2 := hcell (k - 1) (by omega)
          have hpv : prevI L k = nthI L (k - 1) := by unfold prevI; rw [if_neg hk0]
          obtain ⟨m, hmk⟩ : ∃ m, m = k - 1 := ⟨_, rfl⟩
          rw [← hmk] at hc2 hpv
          obtain ⟨y, hy⟩ : ∃ y, y = nthI L m := ⟨_, rfl⟩
          rw [← hy] at hc2 hpv
          have hp : (k : Int) - 1 = (m : Int) := by omega
          have hpos : decide ((0 : Int) < (k : Int)) = true := decide_eq_true (by omega)
          have hpos' : decide (0 < k) = true := decide_eq_true (by omega)
          have hz0 : 0 < k := by omega
          have hml : m < L.length := by omega
          rw [hpv] at heq
          by_cases hxy : x ≤ y
          · have Hn : Hid ((false : Bool) = (okTo (-1) L && decide (L.length < 9))) := Lib.hid (by rw [← heq, decide_eq_false (by omega : ¬ y < x)]; rfl)
            clear heq hbx hx hcell hnx hx0 hpv hy hmk
            go_wp2
            go_quiet ((go_at_call 28; exact Calls.quiet_of_same ((HI _).out.mono fun e w' h => ⟨h.1, h.2.symm⟩)))
            go_wp2
            go_ret
            exact ⟨ret_bool Hn.out, HX.out _⟩
          · have Hn : Hid (okTo (prevI L (k + 1)) (L.drop (k + 1)) = okTo (-1) L) := Lib.hid (by rw [hnx, ← heq, decide_eq_true (by omega : y < x)]; rfl)
            clear heq hbx hx hcell hnx hx0 hpv hy hmk
            go_wp2
            go_quiet ((go_at_call 28; exact Calls.quiet_of_same ((HI _).out.mono fun e w' h => ⟨h.1, h.2.symm⟩)))
            go_wp2
            go_roundw
            case rel => exact ⟨k + 1, by omega, by go_num, Hn.out, Lib.hid (HX.out _)⟩
            case measure => simp [intOf]; omega
    · have Hn : Hid (decide ((L.length : Int) < 9) = (okTo (-1) L && decide (L.length < 9))) := Lib.hid (by
        rw [List.drop_of_length_le (by omega)] at heq
        rw [← heq]
        show _ = (true && decide (L.length < 9))
        rw [Bool.true_and, Bool.eq_iff_iff]
        simp only [decide_eq_true_eq]
        omega)
      clear heq
      go_wp2
      go_ret
      exact ⟨ret_bool Hn.out, HW.out⟩
end Go.Proofs.Ytpoaokkmmoeekaa

/- The document's LabelBytes, SameInts, PutNode; the law's sameNode. -/
namespace Go.Proofs.Ytpoaokkmmoeekaa
open Go.RowKit
set_option linter.unusedVariables false

theorem labN_mone : labN (-1) = 0 := by unfold labN uIn; rw [wrapU64, wrap64_eq]; rfl
theorem labN_lt (x : Int) : labN x < 256 := Nat.mod_lt _ (by omega)
theorem labN_wrap (x : Int) : IntKind.u8.wrap (wrap64 (x + 1)) = ((labN x : Nat) : Int) := by unfold labN uIn; rw [wrapU8, wrapU64]; omega
theorem pl8_nth (L : List Int) (k : Nat) (hk : k < 8) : (pl8 L)[k]? = some (if k < L.length then nthI L k else -1) := by
  unfold pl8
  by_cases h : k < L.length
  · rw [if_pos h, nthI_lt h, List.getElem?_append_left (by rw [List.length_take]; omega), List.getElem?_take_of_lt hk, List.getElem?_eq_getElem h]
  · rw [if_neg h, List.getElem?_append_right (by rw [List.length_take]; omega), List.getElem?_replicate, if_pos (by rw [List.length_take]; omega)]
theorem labB_nth (L : List Int) (k : Nat) (hk : k < 8) : nth (labB L) k = if k < L.length then labN (nthI L k) else 0 := by
  show (List.map labN (pl8 L)).getD k 0 = _
  rw [List.getD_eq_getElem?_getD, List.getElem?_map, pl8_nth L k hk]
  simp only [Option.map_some, Option.getD_some]
  split
  · rfl
  · exact labN_mone
theorem labB_is (L : List Int) : IsBytes (labB L) := by
  intro x hx
  unfold labB at hx
  obtain ⟨y, -, rfl⟩ := List.mem_map.1 hx
  exact labN_lt y

set_option maxRecDepth 100000 in
set_option maxHeartbeats 2000000 in
theorem LabelBytes_any (A : Option Addr) (cap B : Nat) (L : List Int) (w : World) (h : RL ivl w B A L) (hB : B ≤ w.heap.size) (hc : L.length ≤ cap) (hm : cap ≤ maxLen) :
    Calls Try.prog 32 #[.slice A L.length cap] w (NewB (labB L) w) := by
  obtain ⟨i0, hi, hz0, hz1, hz2⟩ := info_parts u8_info
  unfold maxLen at hm
  have hlb := labB_length L
  go_enter Try.func32, Try.ntmps32
  go_wp2
  go_loopw [3, 4, 5] (fun v i _ wr => ∃ k : Nat, k ≤ 8 ∧ i = .int .i64 k ∧ OB wr w.heap.size 5 v ((labB L).take k) ∧ Below w.heap.size w wr) (fun _ i _ _ => 8 - (intOf i).toNat)
  case atStart => exact ⟨0, Nat.zero_le _, rfl, ⟨IsBytes.nil, World.ownsRow_lit w #[] 0 (Nat.le_refl _) (Nat.zero_le _) rfl⟩, (Below.refl _ _).alloc (Nat.le_refl _) _⟩
  case round =>
    obtain ⟨k, hk, rfl, hown, hbw⟩ := hrel
    obtain ⟨Av, cv, rfl, -, -, -, -⟩ := hown.form
    by_cases hlt : k < 8
    · have Htk : Hid ((labB L).take k ++ [nth (labB L) k] = (labB L).take (k + 1)) := Lib.hid (by rw [take_succ_nth (labB L) k (by omega)])
      have Hlen : Hid (((labB L).take k).length + 1 ≤ 140737488355328) := Lib.hid (by rw [List.length_take]; omega)
      have hnth := labB_nth L k hlt
      have h' := h.below' hbw hB
      by_cases hin : k < L.length
      · obtain ⟨b, off, rfl, hb, hcell⟩ := h'.allI (by omega)
        have hc1 := hcell k hin
        rw [if_pos hin] at hnth
        obtain ⟨x, hx⟩ : ∃ x, x = nthI L k := ⟨_, rfl⟩
        rw [← hx] at hc1 hnth
        have hw := labN_wrap x
        rw [← hnth] at hw
        have Hby : Hid (nth (labB L) k < 256) := Lib.hid (by rw [hnth]; exact labN_lt x)
        obtain ⟨y, hy⟩ : ∃ y, y = nth (labB L) k := ⟨_, rfl⟩
        rw [← hy] at hw Hby Htk
        clear hnth hx hcell hy
        go_wp2_with (at_builtin; refine wpList_append_lit8 _ rfl _ _ 26 rfl w.heap.size 5 i0 Try.underlying26 hi hz0 hz1 hz2 _ ((labB L).take k) y (by rfl) hown (by rfl) _ rfl Hby.out Hlen.out hbw.size ?_; intro v1 w1 hown1 hg1 hat1)
        have hbw1 := hown.belowTo hbw (Nat.le_refl _) hg1 hbw.size
        rw [Htk.out] at hown1
        go_roundw
        case rel => exact ⟨k + 1, by omega, by go_num, hown1, hbw1⟩
        case measure => simp [intOf]; omega
      · rw [if_neg hin] at hnth
        have hin' : decide ((k : Int) < (L.length : Int)) = false := decide_eq_false (by omega)
        have Htk : Hid ((labB L).take k ++ [0] = (labB L).take (k + 1)) := Lib.hid (by rw [← Htk.out, hnth])
        clear hnth
        go_wp2_with (at_builtin; refine wpList_append_lit8 _ rfl _ _ 26 rfl w.heap.size 5 i0 Try.underlying26 hi hz0 hz1 hz2 _ ((labB L).take k) 0 (by rfl) hown (by rfl) _ rfl (by omega) Hlen.out hbw.size ?_; intro v1 w1 hown1 hg1 hat1)
        have hbw1 := hown.belowTo hbw (Nat.le_refl _) hg1 hbw.size
        rw [Htk.out] at hown1
        go_roundw
        case rel => exact ⟨k + 1, by omega, by go_num, hown1, hbw1⟩
        case measure => simp [intOf]; omega
    · obtain rfl : k = 8 := by omega
      have Hown := Lib.hid hown
      rw [List.take_of_length_le (by omega)] at Hown
      clear hown
      go_wp2
      go_ret
      have hm8 : min 8 (labB L).length = (labB L).length := by omega
      exact ⟨_, rfl, by simpa [hm8] using Hown.out, hbw⟩

set_option maxHeartbeats 1000000 in
theorem SameInts_any (A A' : Option Addr) (cap cap' B B' : Nat) (xs ys : List Int) (w : World) (h : RL ivl w B A xs) (h' : RL ivl w B' A' ys) (hl : xs.length ≤ maxLen) (hl' : ys.length ≤ maxLen) :
    Calls Try.prog 33 #[.slice A xs.length cap, .slice A' ys.length cap'] w (SameB (decide (xs = ys)) w) := by
  unfold maxLen at hl hl'
  by_cases h0 : xs.length = ys.length
  · have hb : ((xs.length : Int) != (ys.length : Int)) = false := by simp [h0]
    have H0 := Lib.hid h0
    have h1 : xs.length ≤ ys.length := by omega
    have h2 : ys.length ≤ xs.length := by omega
    clear h0
    go_enter Try.func33, Try.ntmps33
    go_wp2
    go_loopw [5] (fun i wr => ∃ k n : Nat, k ≤ xs.length ∧ i = .int .i64 k ∧ xs.take k = ys.take k ∧ wr = w.drewN n) (fun i _ => xs.length - (intOf i).toNat)
    case atStart => exact ⟨0, 0, Nat.zero_le _, rfl, rfl, rfl⟩
    case round =>
      obtain ⟨k, n, hk, rfl, heq, rfl⟩ := hrel
      by_cases hlt : k < xs.length
      · obtain ⟨b, off, rfl, _, hcs⟩ := h.allI (by omega)
        obtain ⟨b', off', rfl, _, hcs'⟩ := h'.allI (by omega)
        have hc := hcs k hlt
        have hc' := hcs' k (by omega)
        clear hcs hcs'
        by_cases hne : nthI xs k = nthI ys k
        · have Hr : Hid (xs.take (k + 1) = ys.take (k + 1)) := Lib.hid (by rw [takeI_succ hlt, takeI_succ (by omega), heq, hne])
          obtain ⟨x, hx⟩ : ∃ x, x = nthI ys k := ⟨_, rfl⟩
          rw [hne, ← hx] at hc
          rw [← hx] at hc'
          have hb1 : (x != x) = false := by simp
          clear heq hne hx
          go_wp2
          go_quiet (fail)
          go_wp2
          go_roundw
          case rel => exact ⟨k + 1, n + nq, by omega, by go_num, Hr.out, rfl⟩
          case measure => simp [intOf]; omega
        · have hb1 : (nthI xs k != nthI ys k) = true := by rw [bne_iff_ne]; exact hne
          have Hn : Hid (decide (xs = ys) = false) := Lib.hid (decide_eq_false (fun e => hne (by rw [e])))
          obtain ⟨x, hx⟩ : ∃ x, x = nthI xs k := ⟨_, rfl⟩
          obtain ⟨y, hy⟩ : ∃ y, y = nthI ys k := ⟨_, rfl⟩
          rw [← hx] at hc hb1
          rw [← hy] at hc' hb1
          clear heq hne hx hy
          go_wp2
          go_quiet (fail)
          go_wp2
          go_ret
          exact ⟨ret_bool Hn.out.symm, n + nq, World.drewN_drewN _ _ _⟩
      · have Hn : Hid (decide (xs = ys) = true) := Lib.hid (decide_eq_true (by
          rw [List.take_of_length_le (by omega), List.take_of_length_le (by omega)] at heq; exact heq))
        clear heq
        go_wp2
        go_ret
        exact ⟨ret_bool Hn.out.symm, n, rfl⟩
  · have hb : ((xs.length : Int) != (ys.length : Int)) = true := by rw [bne_iff_ne]; omega
    have Hn : Hid (decide (xs = ys) = false) := Lib.hid (decide_eq_false (fun e => h0 (by rw [e])))
    clear h0
    go_enter Try.func33, Try.ntmps33
    go_wp2
    go_ret
    exact ⟨ret_bool Hn.out.symm, 0, rfl⟩
end Go.Proofs.Ytpoaokkmmoeekaa
