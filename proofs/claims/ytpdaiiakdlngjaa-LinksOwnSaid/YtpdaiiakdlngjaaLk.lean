/- links: the small functions. -/
import Derived.Test.YtpdaiiakdlngjaaProg
import Derived.Test.YtpdaiiakdlngjaaLkPure
namespace Go.Proofs.Ytpdaiiakdlngjaa
open Go.RowKit
set_option linter.unusedVariables false

theorem ibeq (a b : Int) : (a == b) = decide (a = b) := by by_cases h : a = b <;> simp [h]
theorem lk_size : (Try.prog.info? 46).map (·.size) = some 7 := by kernel_rfl
set_option maxHeartbeats 1000000 in
theorem touches_any (x : LkC) (node : Int) (w : World) : Calls Try.prog 21 #[.agg (lka x), .int .i64 node] w fun e w' => e = .returned (.bool (tb x node)) ∧ Below w.heap.size w w' := by
  have hb : Below w.heap.size w (w.alloc (.cells (lka x) 46)) := (Below.refl _ _).alloc (Nat.le_refl _) _
  have HB := Lib.hid hb
  have ht : tb x node = (decide (x.fr = node) || decide (x.to = node)) := rfl
  rw [ht]
  clear hb ht
  obtain ⟨lv, fr, to, fp, tp, fn, tn⟩ := x
  by_cases h1 : fr = node
  · have e1 : (fr == node) = true := by simp [h1]
    have e2 : decide (fr = node) = true := by simp [h1]
    clear h1
    go_enter Try.func21, Try.ntmps21
    go_wp2
    go_ret
    exact ⟨by simp [e2], HB.out⟩
  · have e1 : (fr == node) = false := beq_eq_false_iff_ne.2 h1
    have e2 : decide (fr = node) = false := decide_eq_false h1
    clear h1
    go_enter Try.func21, Try.ntmps21
    go_wp2
    go_ret
    exact ⟨by simp [e2, ibeq], HB.out⟩
set_option maxHeartbeats 1000000 in
theorem isLoop_any (x : LkC) (w : World) : Calls Try.prog 27 #[.agg (lka x)] w fun e w' => e = .returned (.bool (decide (x.fr = x.to))) ∧ Below w.heap.size w w' := by
  have hb : Below w.heap.size w (w.alloc (.cells (lka x) 46)) := (Below.refl _ _).alloc (Nat.le_refl _) _
  have HB := Lib.hid hb
  clear hb
  obtain ⟨lv, fr, to, fp, tp, fn, tn⟩ := x
  go_enter Try.func27, Try.ntmps27
  go_wp2
  go_ret
  exact ⟨by rw [ibeq]; rfl, HB.out⟩
set_option maxHeartbeats 1000000 in
theorem lkAt_any (A : Option Addr) (cap B : Nat) (O : List Int) (i : Int) (w : World) (h : RL ivl w B A O) (hl : O.length ≤ 140737488355328) : Calls Try.prog 26 #[.slice A O.length cap, .int .i64 i] w fun e w' => e = .returned (.int .i64 (atI O i)) ∧ w = w' := by
  have ha : atI O i = if i < 0 ∨ (O.length : Int) ≤ i then -1 else nthI O i.toNat := rfl
  rw [ha]
  clear ha
  by_cases h0 : i < 0
  · have e1 : decide (i < 0) = true := decide_eq_true h0
    rw [if_pos (.inl h0)]
    go_enter Try.func26, Try.ntmps26
    go_wp2
    go_ret
    exact ⟨rfl, rfl⟩
  · by_cases h1 : (O.length : Int) ≤ i
    · have e1 : decide (i < 0) = false := decide_eq_false h0
      have e2 : decide ((O.length : Int) ≤ i) = true := decide_eq_true h1
      rw [if_pos (.inr h1)]
      go_enter Try.func26, Try.ntmps26
      go_wp2
      go_ret
      exact ⟨rfl, rfl⟩
    · obtain ⟨k, rfl⟩ : ∃ k : Nat, i = k := ⟨i.toNat, by omega⟩
      have hk : k < O.length := by omega
      rw [if_neg (by omega), Int.toNat_natCast]
      obtain ⟨b, off, rfl, _, hc⟩ := h.allI (by omega)
      have hx := hc k hk
      have e1 : decide ((k : Int) < 0) = false := decide_eq_false h0
      have e2 : decide ((O.length : Int) ≤ k) = false := decide_eq_false h1
      clear h hc h0 h1
      go_enter Try.func26, Try.ntmps26
      go_wp2
      go_ret
      exact ⟨rfl, rfl⟩
set_option maxHeartbeats 1000000 in
theorem checkId_any (A : Option Addr) (cap B : Nat) (L : List LkC) (node id : Int) (w : World) (h : RR lkc 7 w B A L) (hl : L.length ≤ 140737488355328) : Calls Try.prog 28 #[.slice A L.length cap, .int .i64 node, .int .i64 id] w fun e w' => e = .returned (.int .i64 (tch L node id)) ∧ Below w.heap.size w w' := by
  have ha : tch L node id = if id < 0 ∨ (L.length : Int) ≤ id then 3 else if (nthD L id.toNat).lv = false then 3 else if tb (nthD L id.toNat) node = true then 0 else 65 := rfl
  rw [ha]
  clear ha
  by_cases h0 : id < 0
  · have e1 : decide (id < 0) = true := decide_eq_true h0
    rw [if_pos (.inl h0)]
    go_enter Try.func28, Try.ntmps28
    go_wp2
    go_ret
    exact ⟨rfl, Below.refl _ _⟩
  · by_cases h1 : (L.length : Int) ≤ id
    · have e1 : decide (id < 0) = false := decide_eq_false h0
      have e2 : decide ((L.length : Int) ≤ id) = true := decide_eq_true h1
      rw [if_pos (.inr h1)]
      go_enter Try.func28, Try.ntmps28
      go_wp2
      go_ret
      exact ⟨rfl, Below.refl _ _⟩
    · obtain ⟨k, rfl⟩ : ∃ k : Nat, id = k := ⟨id.toNat, by omega⟩
      have hk : k < L.length := by omega
      rw [if_neg (by omega), Int.toNat_natCast]
      obtain ⟨b, off, rfl, _, hc⟩ := h.all lkc_f (by omega)
      have hx := hc k _ (nthD_get hk)
      obtain ⟨x, hxe⟩ : ∃ x, x = nthD L k := ⟨_, rfl⟩
      rw [← hxe] at hx ⊢
      have HT := Lib.hid (touches_any x node w)
      obtain ⟨c0, -⟩ := lk_cells hx
      have e1 : decide ((k : Int) < 0) = false := decide_eq_false h0
      have e2 : decide ((L.length : Int) ≤ k) = false := decide_eq_false h1
      have HX := Lib.hid hx
      obtain ⟨t, ht⟩ : ∃ t, t = tb x node := ⟨_, rfl⟩
      rw [← ht] at HT ⊢
      obtain ⟨v, hv⟩ : ∃ v, v = x.lv := ⟨_, rfl⟩
      rw [← hv] at c0 ⊢
      clear h hc h0 h1 hx hxe ht hv
      cases v
      · go_enter Try.func28, Try.ntmps28
        go_wp2
        go_ret
        exact ⟨rfl, Below.refl _ _⟩
      · cases t
        · go_enter Try.func28, Try.ntmps28
          go_wp2_with (first
            | (refine wpList_load_mid rfl 46 _ rfl b (off + k * 7) rfl (lkc x) _ HX.out Try.underlying46 rfl lk_size ?_)
            | (go_at_call 21; refine (HT.out).mono ?_; rintro e w1 ⟨rfl, hb1⟩; have HB1 := Lib.hid hb1; clear hb1))
          go_ret
          exact ⟨rfl, HB1.out⟩
        · go_enter Try.func28, Try.ntmps28
          go_wp2_with (first
            | (refine wpList_load_mid rfl 46 _ rfl b (off + k * 7) rfl (lkc x) _ HX.out Try.underlying46 rfl lk_size ?_)
            | (go_at_call 21; refine (HT.out).mono ?_; rintro e w1 ⟨rfl, hb1⟩; have HB1 := Lib.hid hb1; clear hb1))
          go_ret
          exact ⟨rfl, HB1.out⟩
end Go.Proofs.Ytpdaiiakdlngjaa
