/- cell: cutText, readTexts. -/
import Derived.Test.YthfoffcfbfmajaaGreatDoorCeRead
import Derived.Test.YthfoffcfbfmajaaGreatDoorCsBuild
import Derived.Deep.QuietTactic
import Derived.BigQuiet
import Derived.IntWalk
import Derived.Deep.RegionHeld3
namespace Go.Proofs.YthfoffcfbfmajaaGreatDoor
open Go.RowKit
set_option linter.unusedVariables false

/-- what cutText answers -/
def CutW (l : Bs) (w : World) (e : Ending) (w' : World) : Prop := (match cutT l with
  | none => e = .returned (.tuple #[.string (mkS []), .string (mkS []), .int .i64 220])
  | some p => e = .returned (.tuple #[.string (mkS p.1), .string (mkS p.2), .int .i64 0])) ∧ Below w.heap.size w w'
theorem CutW.no {l : Bs} {w w' : World} (h : cutT l = none) (hb : Below w.heap.size w w') : CutW l w (.returned (.tuple #[.string ⟨#[]⟩, .string ⟨#[]⟩, .int .i64 220])) w' := by
  unfold CutW
  rw [h]
  exact ⟨rfl, hb⟩
theorem CutW.yes {l t r : Bs} {w w' : World} (h : cutT l = some (t, r)) (hb : Below w.heap.size w w') : CutW l w (.returned (.tuple #[.string (mkS t), .string (mkS r), .int .i64 0])) w' := by
  unfold CutW
  rw [h]
  exact ⟨rfl, hb⟩
/-- t is cut, l' is left -/
def CutAt (l t l' : Bs) : Prop := cutT l = (cutT l').map fun p => (t ++ p.1, p.2)
theorem CutAt.start (l : Bs) : CutAt l [] l := by
  unfold CutAt
  cases cutT l <;> rfl
theorem CutAt.none {l t l' : Bs} (h : CutAt l t l') (h2 : cutT l' = none) : cutT l = none := by
  unfold CutAt at h
  rw [h, h2]
  rfl
theorem CutAt.done {l t r : Bs} (h : CutAt l t (59 :: r)) : cutT l = some (t, r) := by
  unfold CutAt at h
  rw [h, cutT_end]
  simp
theorem CutAt.plain {l t r : Bs} {c : UInt8} (h : CutAt l t (c :: r)) (h1 : c ≠ 92) (h2 : c ≠ 59) : CutAt l (t ++ [c]) r := by
  unfold CutAt at h ⊢
  rw [h, cutT_plain _ _ h1 h2]
  cases cutT r <;> simp
theorem CutAt.esc {l t r : Bs} {c : UInt8} (h : CutAt l t (92 :: c :: r)) (h1 : c = 92 ∨ c = 59) : CutAt l (t ++ [c]) r := by
  unfold CutAt at h ⊢
  rw [h, cutT_esc _ _ h1]
  cases cutT r <;> simp
theorem cutT_last : cutT [92] = none := by decide
theorem cutT_nil : cutT [] = none := rfl
theorem byte_ne {x c : UInt8} (h : x ≠ c) {n : Int} (hn : n = (c.toNat : Int) := by rfl) : ((x.toNat : Int) == n) = false := by
  rw [beq_eq_false_iff_ne, hn]
  intro e
  exact h (UInt8.toNat_inj.1 (by omega))
theorem byte_bne {x c : UInt8} (h : x ≠ c) {n : Int} (hn : n = (c.toNat : Int) := by rfl) : ((x.toNat : Int) != n) = true := by
  have := byte_ne h hn
  simp only [bne, this, Bool.not_false]
theorem i64_wrap_le {n : Int} (h0 : 0 ≤ n) (h1 : n ≤ 140737488355328) : IntKind.i64.wrap n = n := by
  rw [IntKind.wrap_i64]
  omega
set_option maxRecDepth 100000 in
set_option maxHeartbeats 1000000 in
theorem cutText_any (l : Bs) (w : World) (hl : l.length ≤ 1073741824) : Calls Tryz.prog 55 #[.string (mkS l)] w (CutW l w) := by
  obtain ⟨N, hN⟩ : ∃ N, N = w.heap.size := ⟨_, rfl⟩
  have HNE := Lib.hid hN
  have hsz : (mkS l).size = l.length := mkS_size l
  obtain ⟨s, hs⟩ : ∃ s, s = mkS l := ⟨_, rfl⟩
  obtain ⟨n, hn⟩ : ∃ n, n = l.length := ⟨_, rfl⟩
  rw [← hs] at hsz
  rw [← hn] at hsz hl
  have HHN := Lib.hid hn
  have HX : Hid (∀ k (hk : k < n) (h' : k < s.size), ∃ x, s[k]'h' = x ∧ l.drop k = x :: l.drop (k + 1)) := Lib.hid (by
    intro k hk h'
    subst hs
    rw [hn] at hk
    exact ⟨l[k], mkS_at l k hk h', drop_cons hk⟩)
  have HEX : Hid (∀ k, s.extract k n = mkS (l.drop k)) := Lib.hid (by
    intro k
    rw [hs, hn, ← mkS_size l]
    exact mkS_drop l k)
  have hbd := Bd.fresh w N hN.symm
  have H0 : Hid (∃ W, W = w.alloc (.cells #[.pointer none, .slice none 0 0] 79) ∧ Bd N N [] W ∧ Below N w W) := Lib.hid ⟨_, rfl, hbd, (Below.refl _ _).alloc (by omega) _⟩
  rw [← hs]
  clear hs hn hbd hN
  go_enter Tryz.func55, Tryz.ntmps55
  go_wp2
  rw [← HNE.out]
  go_loopw [6] (fun i wr => ∃ (k : Nat) (t : Bs), k ≤ n ∧ i = .int .i64 k ∧ Hid (CutAt l t (l.drop k)) ∧ Hid (Bd N N t wr) ∧ Hid (Below N w wr) ∧ t.length ≤ k) (fun i _ => n - (intOf i).toNat)
  case atStart =>
    obtain ⟨W, rfl, h1, h2⟩ := H0.out
    exact ⟨0, [], Nat.zero_le _, rfl, Lib.hid (CutAt.start l), Lib.hid h1, Lib.hid h2, Nat.le_refl _⟩
  case round =>
    obtain ⟨k, t, hk, rfl, HQ, HB, HW, hac⟩ := hrel
    clear H0
    by_cases hlt : k < n
    · have hks : k < s.size := by omega
      obtain ⟨x, hx, hdr⟩ := HX.out k hlt hks
      have HDR := Lib.hid hdr
      clear hdr
      by_cases h59 : x = 59
      · have HD : Hid (cutT l = some (t, l.drop (k + 1))) := Lib.hid (CutAt.done (by rw [← h59, ← HDR.out]; exact HQ.out))
        have HC : Hid (∀ w1, Below wr.heap.size wr w1 → Calls Tryz.prog 48 #[.pointer (some ⟨N, 0, none⟩)] w1 fun e w3 => e = .returned (.string (mkS t)) ∧ CutW l w (.returned (.tuple #[.string (mkS t), .string (s.extract (k + 1) n), .int .i64 0])) w3) := Lib.hid fun w1 hb1 => by
          refine (BString_any N N t _ (HB.out.below hb1)).mono ?_
          rintro e w3 ⟨rfl, hb3⟩
          refine ⟨rfl, ?_⟩
          rw [HEX.out]
          exact CutW.yes HD.out (by rw [← HNE.out]; exact (HW.out.trans (hb1.mono (by have := HB.out.lt; omega))).trans hb3)
        have hk1 : (k : Int) + 1 ≤ (n : Int) := by omega
        have hk2 : IntKind.i64.wrap ((k : Int) + 1) = (k : Int) + 1 := i64_wrap_le (by omega) (by omega)
        have hk3 : (0 : Int) ≤ (k : Int) + 1 := by omega
        have b59 : ((x.toNat : Int) == (((⟨#[59]⟩ : ByteArray)[0]'(by decide)).toNat : Int)) = true := by rw [h59]; decide
        clear HX h59
        go_wp2_with fail
        refine wp_region_held_drew (S := (fun _ => True)) (by kernel_rfl) (by (try dsimp only); try trivial) (fun hHeld => ?_)
        refine wpAnyH_take (i := 1) (v := ?_) rfl (by kernel_rfl) (by kernel_rfl) (by kernel_rfl) (fun _ _ _ h => h) (Or.inl ⟨by rfl, ?_⟩) (by assumption) ?_
        rotate_left
        · (intro w hSw; (try dsimp only at hSw); go_simp; try with_reducible rfl)
        try simp only [Act.put, List.getElem_toArray, List.getElem_cons_zero, List.getElem_cons_succ, List.setIfInBounds_toArray, List.set_cons_zero, List.set_cons_succ]
        refine wpAnyH_take (i := 2) (v := ?_) rfl (by kernel_rfl) (by kernel_rfl) (by kernel_rfl) (fun _ _ _ h => h) (Or.inl ⟨by rfl, ?_⟩) (by assumption) ?_
        rotate_left
        · (intro w hSw; (try dsimp only at hSw); go_simp; try with_reducible rfl)
        try simp only [Act.put, List.getElem_toArray, List.getElem_cons_zero, List.getElem_cons_succ, List.setIfInBounds_toArray, List.set_cons_zero, List.set_cons_succ]
        refine wpAnyH_take (i := 3) (v := ?_) rfl (by kernel_rfl) (by kernel_rfl) (by kernel_rfl) (fun _ _ _ h => h) (Or.inl ⟨by rfl, ?_⟩) (by assumption) ?_
        rotate_left
        · (intro w hSw; (try dsimp only at hSw); go_simp; try with_reducible rfl)
        try simp only [Act.put, List.getElem_toArray, List.getElem_cons_zero, List.getElem_cons_succ, List.setIfInBounds_toArray, List.set_cons_zero, List.set_cons_succ]
        refine wpAnyH_take (i := 4) (v := ?_) rfl (by kernel_rfl) (by kernel_rfl) (by kernel_rfl) (fun _ _ _ h => h) (Or.inl ⟨by rfl, ?_⟩) (by assumption) ?_
        rotate_left
        · (intro w hSw; (try dsimp only at hSw); go_simp; try with_reducible rfl)
        try simp only [Act.put, List.getElem_toArray, List.getElem_cons_zero, List.getElem_cons_succ, List.setIfInBounds_toArray, List.set_cons_zero, List.set_cons_succ]
        refine wpAnyH_ready (rs := [0]) (by kernel_rfl) (by simp) ?_
        refine AllReadyH.cons rfl (fun K hK => ?_) AllReadyH.nil
        go_simp
        go_at_call 48
        refine (HC.out _ (by first | exact (Below.refl _ _).drew | exact below_of_drewN _ _)).mono ?_
        rintro e w3 ⟨rfl, h3⟩
        refine hK.out _ _ (by (try dsimp only); try trivial) (fun hHeld => ?_)
        clear hK K
        try simp only [Act.put, List.getElem_toArray, List.getElem_cons_zero, List.getElem_cons_succ, List.setIfInBounds_toArray, List.set_cons_zero, List.set_cons_succ]
        refine wpAnyH_take (i := 5) (v := ?_) rfl (by kernel_rfl) (by kernel_rfl) (by kernel_rfl) (fun _ _ _ h => h) (Or.inl ⟨by rfl, ?_⟩) (by assumption) ?_
        rotate_left
        · (intro w hSw; (try dsimp only at hSw); go_simp; try with_reducible rfl)
        try simp only [Act.put, List.getElem_toArray, List.getElem_cons_zero, List.getElem_cons_succ, List.setIfInBounds_toArray, List.set_cons_zero, List.set_cons_succ]
        refine wpAnyH_take (i := 6) (v := ?_) rfl (by kernel_rfl) (by kernel_rfl) (by kernel_rfl) (fun _ _ _ h => h) (Or.inl ⟨by rfl, ?_⟩) (by assumption) ?_
        rotate_left
        · (intro w hSw; (try dsimp only at hSw); go_simp; try with_reducible rfl)
        try simp only [Act.put, List.getElem_toArray, List.getElem_cons_zero, List.getElem_cons_succ, List.setIfInBounds_toArray, List.set_cons_zero, List.set_cons_succ]
        refine wpAnyH_take (i := 7) (v := ?_) rfl (by kernel_rfl) (by kernel_rfl) (by kernel_rfl) (fun _ _ _ h => h) (Or.inl ⟨by rfl, ?_⟩) (by assumption) ?_
        rotate_left
        · (intro w hSw; (try dsimp only at hSw); go_simp; try with_reducible rfl)
        try simp only [Act.put, List.getElem_toArray, List.getElem_cons_zero, List.getElem_cons_succ, List.setIfInBounds_toArray, List.set_cons_zero, List.set_cons_succ]
        refine wpAnyH_done (by kernel_rfl) ?_ _
        go_wp2
        go_ret3
        exact h3
      · have b59 : ((x.toNat : Int) == (((⟨#[59]⟩ : ByteArray)[0]'(by decide)).toNat : Int)) = false := byte_ne h59
        have hk2 : IntKind.i64.wrap ((k : Int) + 1) = (k : Int) + 1 := i64_wrap_le (by omega) (by omega)
        by_cases h92 : x = 92
        · have b92 : ((x.toNat : Int) == (((⟨#[92]⟩ : ByteArray)[0]'(by decide)).toNat : Int)) = true := by rw [h92]; decide
          have HDR1 : Hid (l.drop k = 92 :: l.drop (k + 1)) := Lib.hid (by rw [HDR.out, h92])
          clear h92 h59
          go_wp2_with fail
          rw [show (k : Int) + 1 = ((k + 1 : Nat) : Int) from by omega]
          obtain ⟨m, hm⟩ : ∃ m, m = k + 1 := ⟨_, rfl⟩
          rw [← hm]
          have hmk : m ≤ n := by omega
          have HMK := Lib.hid hm
          have hmk2 : k < m := by omega
          rw [← hm] at HDR1
          clear hm hk2 hx b59 b92
          by_cases hmn : m = n
          · have HN : Hid (∀ q, CutW l w (.returned (.tuple #[.string ⟨#[]⟩, .string ⟨#[]⟩, .int .i64 220])) (wr.drewN q)) := Lib.hid fun q => (CutW.no (HQ.out.none (by rw [HDR1.out, hmn, HHN.out, List.drop_length]; rfl)) (by rw [← HNE.out]; exact below_drewN HW.out q))
            have b1 : ((m : Int) == (n : Int)) = true := by rw [hmn]; simp
            clear hmn hmk hmk2
            go_quiet (fail)
            go_wp2
            go_ret3
            exact HN.out _
          · have b1 : ((m : Int) == (n : Int)) = false := by rw [beq_eq_false_iff_ne]; omega
            have hmlt : m < n := by omega
            have hmls : m < s.size := by omega
            obtain ⟨y, hy, hdr2⟩ := HX.out m hmlt hmls
            by_cases hye : y = 92 ∨ y = 59
            · have HQ2 : Hid (CutAt l (t ++ [y]) (l.drop (m + 1))) := Lib.hid (CutAt.esc (by rw [← hdr2, ← HDR1.out]; exact HQ.out) hye)
              have HC := Lib.hid fun q => WriteByte_any N N t y (wr.drewN q) (HB.out.below (below_of_drewN _ _)) (by omega)
              clear hdr2
              by_cases hy92 : y = 92
              · have c92 : ((y.toNat : Int) != (((⟨#[92]⟩ : ByteArray)[0]'(by decide)).toNat : Int)) = false := by rw [hy92]; decide
                clear hye hy92
                go_quiet (fail)
                go_wp2_with fail
                refine (HC.out _).mono ?_
                rintro e w1 ⟨rfl, h1, hb1⟩
                have H1 := Lib.hid h1
                have HB1 := Lib.hid ((below_drewN HW.out _).trans hb1)
                clear h1 hb1
                go_wp2
                go_roundw
                case rel => exact ⟨m + 1, t ++ [y], by omega, by go_num, HQ2, H1, HB1, by simp; omega⟩
                case measure => simp [intOf]; omega
              · have c92 : ((y.toNat : Int) != (((⟨#[92]⟩ : ByteArray)[0]'(by decide)).toNat : Int)) = true := byte_bne hy92
                have c59 : ((y.toNat : Int) != (((⟨#[59]⟩ : ByteArray)[0]'(by decide)).toNat : Int)) = false := by rw [hye.resolve_left hy92]; decide
                clear hye hy92
                go_quiet (fail)
                go_wp2_with fail
                refine (HC.out _).mono ?_
                rintro e w1 ⟨rfl, h1, hb1⟩
                have H1 := Lib.hid h1
                have HB1 := Lib.hid ((below_drewN HW.out _).trans hb1)
                clear h1 hb1
                go_wp2
                go_roundw
                case rel => exact ⟨m + 1, t ++ [y], by omega, by go_num, HQ2, H1, HB1, by simp; omega⟩
                case measure => simp [intOf]; omega
            · have HN : Hid (∀ q, CutW l w (.returned (.tuple #[.string ⟨#[]⟩, .string ⟨#[]⟩, .int .i64 220])) (wr.drewN q)) := Lib.hid fun q => (CutW.no (HQ.out.none (by rw [HDR1.out, hdr2]; exact cutT_bad _ _ hye)) (by rw [← HNE.out]; exact below_drewN HW.out q))
              have hy92 : y ≠ 92 := fun h => hye (.inl h)
              have hy59 : y ≠ 59 := fun h => hye (.inr h)
              have c92 : ((y.toNat : Int) != (((⟨#[92]⟩ : ByteArray)[0]'(by decide)).toNat : Int)) = true := byte_bne hy92
              have c59 : ((y.toNat : Int) != (((⟨#[59]⟩ : ByteArray)[0]'(by decide)).toNat : Int)) = true := byte_bne hy59
              clear hye hy92 hy59 hdr2
              go_quiet (fail)
              go_wp2
              go_ret3
              exact HN.out _
        · have b92 : ((x.toNat : Int) == (((⟨#[92]⟩ : ByteArray)[0]'(by decide)).toNat : Int)) = false := byte_ne h92
          have HQ2 : Hid (CutAt l (t ++ [x]) (l.drop (k + 1))) := Lib.hid (CutAt.plain (by rw [← HDR.out]; exact HQ.out) h92 h59)
          have HC := Lib.hid (WriteByte_any N N t x wr HB.out (by omega))
          clear h92 h59 HX
          go_wp2_with fail
          refine HC.out.mono ?_
          rintro e w1 ⟨rfl, h1, hb1⟩
          have H1 := Lib.hid h1
          have HB1 := Lib.hid (HW.out.trans hb1)
          clear h1 hb1
          go_wp2
          go_roundw
          case rel => exact ⟨k + 1, t ++ [x], by omega, by go_num, HQ2, H1, HB1, by simp; omega⟩
          case measure => simp [intOf]; omega
    · have hk : k = n := by omega
      subst hk
      have HN : Hid (CutW l w (.returned (.tuple #[.string ⟨#[]⟩, .string ⟨#[]⟩, .int .i64 220])) wr) := Lib.hid (CutW.no (HQ.out.none (by rw [HHN.out, List.drop_length]; rfl)) (by rw [← HNE.out]; exact HW.out))
      go_wp2
      go_ret3
      exact HN.out
end Go.Proofs.YthfoffcfbfmajaaGreatDoor
