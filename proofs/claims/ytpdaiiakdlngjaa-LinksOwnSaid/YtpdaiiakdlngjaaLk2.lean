/- links: lists compared and copied. -/
import Derived.Test.YtpdaiiakdlngjaaLk
import Derived.Deep.QuietTactic
import Derived.BigQuiet
import Derived.IntWalk
import Derived.Laws.StructEq
import Derived.WalkSpells
namespace Go.Proofs.Ytpdaiiakdlngjaa
open Go.RowKit
set_option linter.unusedVariables false

/-- a Bool, some answers drawn -/
def SameW (b : Bool) (w : World) (e : Ending) (w' : World) : Prop := e = .returned (.bool b) ∧ ∃ n, w' = w.drewN n
set_option maxHeartbeats 1000000 in
theorem sameInts_yes (A A' : Option Addr) (n cap cap' B B' : Nat) (xs : List Int) (w : World) (h : RL ivl w B A xs) (h' : RL ivl w B' A' xs) (hn : xs.length = n) (hl : n ≤ maxLen) :
    Calls Try.prog 12 #[.slice A n cap, .slice A' n cap'] w (SameW true w) := by
  subst hn
  unfold maxLen at hl
  have hb : ((xs.length : Int) != (xs.length : Int)) = false := by simp
  go_enter Try.func12, Try.ntmps12
  go_wp2
  go_loopw [13] (fun i wr => ∃ k n : Nat, k ≤ xs.length ∧ i = .int .i64 k ∧ wr = w.drewN n) (fun i _ => xs.length - (intOf i).toNat)
  case atStart => exact ⟨0, 0, Nat.zero_le _, rfl, rfl⟩
  case round =>
    obtain ⟨k, n, hk, rfl, rfl⟩ := hrel
    by_cases hlt : k < xs.length
    · obtain ⟨b, off, rfl, _, hcs⟩ := h.allI (by omega)
      obtain ⟨b', off', rfl, _, hcs'⟩ := h'.allI (by omega)
      have hc := hcs k hlt
      have hc' := hcs' k (by omega)
      obtain ⟨x, hx⟩ : ∃ x, x = nthI xs k := ⟨_, rfl⟩
      rw [← hx] at hc hc'
      have hb1 : (x != x) = false := by simp
      clear hx hcs hcs'
      go_wp2
      go_quiet (fail)
      go_wp2
      go_roundw
      case rel => exact ⟨k + 1, n + nq, by omega, by go_num, rfl⟩
      case measure => simp [intOf]; omega
    · go_wp2
      go_ret
      exact ⟨rfl, n, rfl⟩
set_option maxRecDepth 100000 in
set_option maxHeartbeats 2000000 in
theorem lk_neq (x : LkC) (w : World) : (binOp .neq 46 (.agg (lka x)) (.agg (lka x))).run Try.prog w = .ok (.bool false) w := by
  go_simp
theorem lk_guard (op : BinOp) (a b : Operand) (xs ys : Array Value) (w : World) : (eqGuard op 46 a b (.agg xs) (.agg ys)).run Try.prog w = .ok () w := run_eqGuard_agg w op _ a b xs ys (by kernel_rfl)
set_option maxHeartbeats 1000000 in
theorem sameLk_yes (A A' : Option Addr) (n cap cap' B B' : Nat) (xs : List LkC) (w : World) (h : RR lkc 7 w B A xs) (h' : RR lkc 7 w B' A' xs) (hn : xs.length = n) (hl : n ≤ 140737488355328) :
    Calls Try.prog 15 #[.slice A n cap, .slice A' n cap'] w (SameW true w) := by
  subst hn
  have hb : ((xs.length : Int) != (xs.length : Int)) = false := by simp
  go_enter Try.func15, Try.ntmps15
  go_wp2
  go_loopw [13] (fun i wr => ∃ k n : Nat, k ≤ xs.length ∧ i = .int .i64 k ∧ wr = w.drewN n) (fun i _ => xs.length - (intOf i).toNat)
  case atStart => exact ⟨0, 0, Nat.zero_le _, rfl, rfl⟩
  case round =>
    obtain ⟨k, n, hk, rfl, rfl⟩ := hrel
    by_cases hlt : k < xs.length
    · obtain ⟨b, off, rfl, _, hcs⟩ := h.all lkc_f (by omega)
      obtain ⟨b', off', rfl, _, hcs'⟩ := h'.all lkc_f (by omega)
      have hc := hcs k _ (nthD_get hlt)
      have hc' := hcs' k _ (nthD_get hlt)
      obtain ⟨x, hx⟩ : ∃ x, x = nthD xs k := ⟨_, rfl⟩
      rw [← hx] at hc hc'
      clear hx hcs hcs'
      have g3 := fun W : World => lk_neq x W
      have g4 := fun (op : BinOp) (a b : Operand) (W : World) => lk_guard op a b (lka x) (lka x) W
      obtain ⟨z, hz⟩ : ∃ z, z = lka x := ⟨_, rfl⟩
      have hz7 : (Try.prog.info? 46).map (·.size) = some z.size := by rw [hz]; exact lk_size
      rw [← hz] at g3 g4
      have HC : Hid (w.rangeAt b (off + k * 7) z.toList) := Lib.hid (by rw [hz]; exact hc)
      have HC' : Hid (w.rangeAt b' (off' + k * 7) z.toList) := Lib.hid (by rw [hz]; exact hc')
      clear hz hc hc'
      go_wp2
      refine wp_region_quiet_lit (by kernel_rfl) (by kernel_rfl) ?_
      repeat (first
        | (refine wpQuiet_load_mid rfl 46 _ rfl b (off + k * 7) rfl z _ (by rintro _ ⟨m, rfl⟩; exact HC.out) Try.underlying46 rfl hz7 ?_)
        | (refine wpQuiet_load_mid rfl 46 _ rfl b' (off' + k * 7) rfl z _ (by rintro _ ⟨m, rfl⟩; exact HC'.out) Try.underlying46 rfl hz7 ?_)
        | (go_big_quiet_step (fail))
        | (quiet_step (fail)))
      refine wpQuiet_nil ?_
      intro _ hw'
      obtain ⟨nq, rfl⟩ := hw'
      go_wp2
      go_roundw
      case rel => exact ⟨k + 1, n + nq, by omega, by go_num, rfl⟩
      case measure => simp [intOf]; omega
    · go_wp2
      go_ret
      exact ⟨rfl, n, rfl⟩
theorem link_info : (Try.prog.info? 46).map (fun i => (i.zero.map (·.cells.size), i.size, i.bytes)) = some (some 7, 7, 56) := by kernel_rfl
/-- a new list -/
def NewLk (L : List LkC) (w : World) (e : Ending) (w' : World) : Prop := ∃ v, e = .returned v ∧ w'.ownsRow w.heap.size 46 7 v L.length (L.flatMap lkc) ∧ Below w.heap.size w w'
set_option maxHeartbeats 1000000 in
theorem copied_any (A : Option Addr) (cap B : Nat) (L : List LkC) (w : World) (h : RR lkc 7 w B A L) (hB : B ≤ w.heap.size) (hl : L.length * 56 ≤ 140737488355328) :
    Calls Try.prog 11 #[.slice A L.length cap] w (NewLk L w) := by
  obtain ⟨i0, z0, hi, hz, hy1, hy2, hz1⟩ := row_info link_info
  have h1 := h.alloc hB (.cells #[] 46)
  have h2 := World.ownsRow_lit (base := w.heap.size) (size := 7) (e := 46) w #[] 0 (Nat.le_refl _) (Nat.zero_le _) (by simp)
  go_enter Try.func11, Try.ntmps11
  go_wp2_with (at_builtin; refine wpList_append_rows (f := lkc) (s := 7) _ lkc_f rfl _ _ 22 rfl w.heap.size 46 i0 z0 56 Try.underlying22 hi hz hy1 hy2 hz1 _ [] (by rfl) h2 A cap B L L.length rfl (by rfl) h1 (by simpa using hl) (by omega) (by simp) ?_; intro v1 w1 hown1 hg1 hat1)
  have hb1 : Below w.heap.size w w1 := below_own ((Below.refl _ _).alloc (Nat.le_refl _) _) h2 (Nat.le_refl _) hg1 (by simp)
  go_ret
  exact ⟨_, rfl, by simpa using hown1, hb1⟩
set_option maxHeartbeats 1000000 in
theorem cloneLk_any (A : Option Addr) (cap B : Nat) (L : List LkC) (w : World) (h : RR lkc 7 w B A L) (hB : B ≤ w.heap.size) (hl : L.length * 56 ≤ 140737488355328) :
    Calls Try.prog 24 #[.slice A L.length cap] w (NewLk L w) := by
  obtain ⟨i0, z0, hi, hz, hy1, hy2, hz1⟩ := row_info link_info
  have hnil := Lib.run_eql_slice_nil (P := Try.prog) w 22 46 A L.length cap 0 0 Try.underlying22
  rcases A with _ | a
  · have hbs : L = [] := by
      rcases Nat.eq_zero_or_pos L.length with h0 | h0
      · exact List.length_eq_zero_iff.1 h0
      · obtain ⟨_, h, _⟩ := h.2 h0
        cases h
    subst hbs
    simp only [Option.isNone_none, List.length_nil] at hnil
    go_enter Try.func24, Try.ntmps24
    go_wp2
    go_ret
    exact ⟨_, rfl, World.ownsRow_nil _ _ _ _, Below.refl _ _⟩
  · simp only [Option.isNone_some] at hnil
    have h1 := h.alloc hB (.cells #[] 46)
    have h2 := World.ownsRow_lit (base := w.heap.size) (size := 7) (e := 46) w #[] 0 (Nat.le_refl _) (Nat.zero_le _) (by simp)
    go_enter Try.func24, Try.ntmps24
    go_wp2_with (at_builtin; refine wpList_append_rows (f := lkc) (s := 7) _ lkc_f rfl _ _ 22 rfl w.heap.size 46 i0 z0 56 Try.underlying22 hi hz hy1 hy2 hz1 _ [] (by rfl) h2 (some a) cap B L L.length rfl (by rfl) h1 (by simpa using hl) (by omega) (by simp) ?_; intro v1 w1 hown1 hg1 hat1)
    have hb1 : Below w.heap.size w w1 := below_own ((Below.refl _ _).alloc (Nat.le_refl _) _) h2 (Nat.le_refl _) hg1 (by simp)
    go_ret
    exact ⟨_, rfl, by simpa using hown1, hb1⟩
end Go.Proofs.Ytpdaiiakdlngjaa
