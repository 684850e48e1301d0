/- links: side, checkOrder. -/
import Derived.Test.YtpdaiiakdlngjaaLk4
import Derived.Deep.Cut
import Derived.Maps.Own
import Derived.Maps.OwnSet
import Derived.Maps.Views
namespace Go.Proofs.Ytpdaiiakdlngjaa
open Go.RowKit Go.Maps
set_option linter.unusedVariables false

set_option maxHeartbeats 1000000 in
theorem side_any (g o : Nat) (fr node : Int) (w : World) (hc : w.cell? ⟨g, o + 1, none⟩ = some (.int .i64 fr)) : Calls Try.prog 25 #[.pointer (some ⟨g, o, none⟩), .int .i64 node] w fun e w' => e = .returned (.tuple #[.pointer (some ⟨g, if fr = node then o + 3 else o + 4, none⟩), .pointer (some ⟨g, if fr = node then o + 5 else o + 6, none⟩)]) ∧ ∃ n, w' = w.drewN n := by
  by_cases h : fr = node
  · have e1 : (fr == node) = true := by simp [h]
    rw [if_pos h, if_pos h]
    clear h
    go_enter Try.func25, Try.ntmps25
    go_wp2
    go_quiet (fail)
    go_wp2
    go_ret2
    exact ⟨rfl, _, rfl⟩
  · have e1 : (fr == node) = false := beq_eq_false_iff_ne.2 h
    have e2 : decide (fr = node) = false := decide_eq_false h
    rw [if_neg h, if_neg h]
    clear h
    go_enter Try.func25, Try.ntmps25
    go_wp2
    go_quiet (fail)
    go_wp2
    go_ret2
    exact ⟨rfl, _, rfl⟩
theorem lkI : Keyed Try.prog 3 := int_keyed Try.underlying3
theorem ownsMap_block {P : Program} {k : TypeId} {R : Value → Option (DataW Unit × List MemPlace)} {w w' : World} {b n : Nat} {D : DataW Unit} (h : w.ownsMap P k R b n D) (hb : w'.heap[b]? = w.heap[b]?) : w'.ownsMap P k R b n D := by
  obtain ⟨es, clock, h1, h2⟩ := h
  exact ⟨es, clock, hb.trans h1, h2⟩
theorem ownsMap_below {P : Program} {k : TypeId} {R : Value → Option (DataW Unit × List MemPlace)} {w w' : World} {b n : Nat} {D : DataW Unit} (h : w.ownsMap P k R b n D) (hb : Below w.heap.size w w') : w'.ownsMap P k R b n D := ownsMap_block h (hb.block b h.lt)

theorem zeroU (w : World) : (zeroValue 59).run Try.prog w = .ok (.agg #[]) w := by kernel_rfl
/-- ids as keys -/
def keysI (O : List Int) : List Lit := O.map fun n => Lit.int .i64 n
def setI (O : List Int) : DataW Unit := setOf (.agg []) (keysI O)
theorem setI_snoc (O : List Int) (n : Int) : setI (O ++ [n]) = (setI O).put (Lit.int .i64 n) (.agg []) := by
  unfold setI
  rw [show keysI (O ++ [n]) = keysI O ++ [Lit.int .i64 n] from by simp [keysI], setOf_snoc]
theorem has_setI (O : List Int) (n : Int) : Maps.has (setI O) (Lit.int .i64 n) = decide (n ∈ O) := by
  unfold setI
  rw [has_setOf]
  · unfold keysI
    rw [List.any_map, Bool.eq_iff_iff, List.any_eq_true]
    simp only [Function.comp, decide_eq_true_eq]
    constructor
    · rintro ⟨x, hx, he⟩
      have : x = n := by simpa [Lit.sameKey] using he
      rw [← this]; exact hx
    · intro h
      exact ⟨n, h, by simp [Lit.sameKey]⟩
  · intro x hx
    unfold keysI at hx
    obtain ⟨y, hy, rfl⟩ := List.mem_map.1 hx
    trivial
set_option maxRecDepth 100000 in
set_option maxHeartbeats 2000000 in
theorem checkOrder_any (A : Option Addr) (cap B : Nat) (L : List LkC) (node : Int) (A' : Option Addr) (cap' B' : Nat) (O : List Int) (w : World) (h : RR lkc 7 w B A L) (hB : B ≤ w.heap.size) (hl : L.length * 56 ≤ 140737488355328)
    (h' : RL ivl w B' A' O) (hB' : B' ≤ w.heap.size) (hl' : O.length ≤ 140737488355328) (hO : ∀ x ∈ O, inI x) :
    Calls Try.prog 23 #[.slice A L.length cap, .int .i64 node, .slice A' O.length cap'] w fun e w' => e = .returned (.int .i64 (chk L node O)) ∧ Below w.heap.size w w' := by
  have hmm := @run_makeMap Try.prog
  have hchk : chk L node O = chkD L node O 0 := by unfold chk chkD; rw [List.drop_zero]
  have HCH := Lib.hid hchk
  clear hchk
  go_enter Try.func23, Try.ntmps23
  go_wp2
  go_loopw [16] (fun i wr => ∃ k : Nat, k ≤ O.length ∧ i = .int .i64 k ∧ wr.ownsMap Try.prog 3 unitElem w.heap.size k (setI (O.take k)) ∧ Below w.heap.size w wr ∧ w.heap.size < wr.heap.size ∧ chk L node O = chkD L node O k) (fun i _ => O.length - (intOf i).toNat)
  case atStart => exact ⟨0, Nat.zero_le _, rfl, World.ownsMap_made _ _ _ _, (Below.refl _ _).alloc (Nat.le_refl _) _, by simp, HCH.out⟩
  case round =>
    obtain ⟨k, hk, rfl, hown, hbw, hws, hd⟩ := hrel
    by_cases hlt : k < O.length
    · have HT := Lib.hid (checkId_any A cap B L node (nthI O k) wr (h.below' hbw hB) (by omega))
      have hst := chkD_step L node O hlt
      rw [← hd] at hst
      have hce : cErr L node O k = if tch L node (nthI O k) = 0 then if nthI O k ∈ O.take k then 7 else 0 else tch L node (nthI O k) := rfl
      obtain ⟨b, off, rfl, hb, hcs⟩ := (h'.below' hbw hB').allI (by omega)
      have hc := hcs k hlt
      have hin := hO (nthI O k) (by rw [nthI_lt hlt]; exact List.getElem_mem hlt)
      have htk := takeI_succ hlt
      have hhas := has_setI (O.take k) (nthI O k)
      have hput := setI_snoc (O.take k) (nthI O k)
      rw [← htk] at hput
      generalize nthI O k = x at *
      obtain ⟨m, hm⟩ : ∃ m, m = decide (x ∈ O.take k) := ⟨_, rfl⟩
      rw [← hm] at hhas
      have hme : (x ∈ O.take k) ↔ m = true := by rw [hm]; simp
      obtain ⟨t, ht⟩ : ∃ t, t = tch L node x := ⟨_, rfl⟩
      rw [← ht] at HT hce
      have hkey : keyOf Try.prog 3 (.int .i64 x) = some (.int .i64 x) := keyOf_int_mk Try.underlying3 (WalkArith.wf_i64 (by unfold inI at hin; omega))
      have HIN := Lib.hid hin
      clear hin hm ht hcs
      by_cases ht0 : t = 0
      · subst ht0
        rw [if_pos rfl] at hce
        cases m
        · have hnm : ¬ (x ∈ O.take k) := by rw [hme]; decide
          rw [if_neg hnm] at hce
          rw [hce, if_pos rfl] at hst
          have HST := Lib.hid hst
          have HPUT := Lib.hid hput
          clear hst hput hnm hme hce hd htk
          go_wp2_with (first
            | (go_at_call 28; refine (HT.out).mono ?_; rintro e w5 ⟨rfl, hb5⟩; have h5 := Lib.hid (ownsMap_below hown hb5); have HB5 := Lib.hid (hbw.trans (hb5.mono (Nat.le_of_lt hws))); have s5 := Lib.hid hb5.size; clear hb5)
            | (at_lookup; (refine wpList_lookup_own_unit _ rfl _ _ 58 rfl 3 59 lkI Try.underlying58 (zeroU _) w.heap.size k _ (by rfl) h5.out _ _ (by rfl) hkey ?_; rw [hhas]))
            | (at_mapUpdate; refine wpList_mapUpdate_own _ rfl _ _ _ 58 rfl 3 59 lkI Try.underlying58 (unitElem (H := Unit)) w.heap.size k _ rfl (h5.out.alloc _) (by unfold maxLen; omega) _ _ _ rfl rfl hkey _ [] unitElem_mk ?_; intro w1 hown1 hgrow1))
          have s1 := hgrow1.size
          simp at s1
          have hb1 : Below w.heap.size w w1 := (HB5.out.alloc HB5.out.size _).grown hgrow1 (by have := HB5.out.size; simp; omega) (fun j hj => by cases hj; exact Nat.le_refl _)
          have s2 := s5.out
          go_roundw
          case rel => exact ⟨k + 1, by omega, by go_num, by rw [HPUT.out]; exact hown1, hb1, by omega, HST.out⟩
          case measure => simp [intOf]; omega
        · have hnm : x ∈ O.take k := by rw [hme]
          rw [if_pos hnm] at hce
          rw [hce, if_neg (by decide)] at hst
          have HST := Lib.hid hst
          clear hst hput hnm hme hce hd htk
          go_wp2_with (first
            | (go_at_call 28; refine (HT.out).mono ?_; rintro e w5 ⟨rfl, hb5⟩; have h5 := Lib.hid (ownsMap_below hown hb5); have HB5 := Lib.hid (hbw.trans (hb5.mono (Nat.le_of_lt hws))); clear hb5)
            | (at_lookup; refine wpList_lookup_own_unit _ rfl _ _ 58 rfl 3 59 lkI Try.underlying58 (zeroU _) w.heap.size k _ (by rfl) h5.out _ _ (by rfl) hkey ?_; rw [hhas]))
          go_ret
          exact ⟨ret_int HST.out.symm, HB5.out.alloc HB5.out.size _⟩
      · have e1 : (t != 0) = true := by simp [ht0]
        rw [if_neg ht0] at hce
        rw [hce, if_neg ht0] at hst
        have HST := Lib.hid hst
        clear hst hput hme hce hd htk hhas
        go_wp2_with (go_at_call 28; refine (HT.out).mono ?_; rintro e w5 ⟨rfl, hb5⟩; have HB5 := Lib.hid (hbw.trans (hb5.mono (Nat.le_of_lt hws))); clear hb5)
        go_ret
        exact ⟨ret_int HST.out.symm, HB5.out⟩
    · obtain rfl : k = O.length := by omega
      rw [chkD_end] at hd
      have HD := Lib.hid hd
      have HBW := Lib.hid hbw
      clear hd hbw hown
      go_wp2
      go_ret
      exact ⟨ret_int HD.out.symm, HBW.out⟩
end Go.Proofs.Ytpdaiiakdlngjaa
