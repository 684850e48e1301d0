/- The program's Canon of a graph of one node and one relationship, each without lists: what a run that is fixed needs. -/
import Derived.Test.YthnaipgdjbaebaaGreatGrSorted
import Derived.Test.YthnaipgdjbaebaaGreatGrBase
import Derived.Deep.QuietTactic
import Derived.BigQuiet
import Derived.Deep.RegionHeld3
namespace Go.Proofs.YthnaipgdjbaebaaGreat
open Go.RowKit
set_option linter.unusedVariables false

theorem cloneTexts_nil (c : Nat) (w : World) : Calls Tryz.prog 90 #[.slice none 0 c] w fun e w' => e = .returned (.slice none 0 0) ∧ w' = w := by
  have hnil := Lib.run_eql_slice_nil (P := Tryz.prog) w 37 9 none 0 c 0 0 Tryz.underlying37
  simp only [Option.isNone_none] at hnil
  go_enter Tryz.func90, Tryz.ntmps90
  go_wp2
  go_ret
  exact ⟨rfl, rfl⟩
theorem cloneProps_nil (c : Nat) (w : World) : Calls Tryz.prog 91 #[.slice none 0 c] w fun e w' => e = .returned (.slice none 0 0) ∧ w' = w := by
  have hnil := Lib.run_eql_slice_nil (P := Tryz.prog) w 38 45 none 0 c 0 0 Tryz.underlying38
  simp only [Option.isNone_none] at hnil
  go_enter Tryz.func91, Tryz.ntmps91
  go_wp2
  go_ret
  exact ⟨rfl, rfl⟩
theorem canonLabels_nil (c : Nat) (w : World) : Calls Tryz.prog 67 #[.slice none 0 c] w fun e w' => e = .returned (.slice none 0 0) ∧ w' = w := by
  go_enter Tryz.func67, Tryz.ntmps67
  go_wp2_with fail
  refine (cloneTexts_nil _ _).mono ?_
  rintro e w1 ⟨rfl, rfl⟩
  go_wp2_with fail
  refine (sortNil_any _ _ _).mono ?_
  rintro e w2 ⟨rfl, rfl⟩
  go_wp2
  go_ret
  exact ⟨rfl, rfl⟩

set_option maxHeartbeats 1000000 in
theorem insProp_any (x cmp : Value) (n : Nat) (hn : n ≤ 1) (w : World) : Calls Tryz.prog 142 #[x, .int .i64 0, .int .i64 n, cmp] w fun e w' => e = .returned (.tuple #[]) ∧ w' = w := by
  have hd : decide ((1 : Int) < (n : Int)) = false := decide_eq_false (by omega)
  go_enter Tryz.func142, Tryz.ntmps142
  go_wp2
  go_loopw [8] (fun i wr => i = .int .i64 1 ∧ wr = w) (fun _ _ => 0)
  case atStart => exact ⟨rfl, rfl⟩
  case round =>
    obtain ⟨rfl, rfl⟩ := hrel
    go_wp2
    go_end0
    exact ⟨rfl, rfl⟩
set_option maxHeartbeats 1000000 in
theorem stabProp_any (x cmp : Value) (n : Nat) (hn : n ≤ 1) (w : World) : Calls Tryz.prog 116 #[x, .int .i64 n, cmp] w fun e w' => e = .returned (.tuple #[]) ∧ w' = w := by
  have hI := Lib.hid (insProp_any x cmp n hn w)
  have hd : decide ((20 : Int) ≤ (n : Int)) = false := decide_eq_false (by omega)
  have hd2 : decide ((20 : Int) < (n : Int)) = false := decide_eq_false (by omega)
  go_enter Tryz.func116, Tryz.ntmps116
  go_wp2
  go_loopw [7, 8] (fun a b wr => a = .int .i64 0 ∧ b = .int .i64 20 ∧ wr = w) (fun _ _ _ => 0)
  case atStart => exact ⟨rfl, rfl, rfl⟩
  case round =>
    obtain ⟨rfl, rfl, rfl⟩ := hrel
    go_wp2_with fail
    refine hI.out.mono ?_
    rintro e w2 ⟨rfl, rfl⟩
    go_wp2
    go_loopw [6] (fun a wr => a = .int .i64 20 ∧ wr = w2) (fun _ _ => 0)
    case atStart => exact ⟨rfl, rfl⟩
    case round =>
      obtain ⟨rfl, rfl⟩ := hrel
      go_wp2
      go_end0
      exact ⟨rfl, rfl⟩
theorem sortProp_any (A : Option Addr) (c : Nat) (cmp : Value) (n : Nat) (hn : n ≤ 1) (w : World) : Calls Tryz.prog 93 #[.slice A n c, cmp] w fun e w' => e = .returned (.tuple #[]) ∧ w' = w := by
  have hI := Lib.hid (stabProp_any (.slice A n c) cmp n hn w)
  go_enter Tryz.func93, Tryz.ntmps93
  go_wp2_with fail
  refine hI.out.mono ?_
  rintro e w2 ⟨rfl, rfl⟩
  go_wp2
  go_end0
  exact ⟨rfl, rfl⟩

set_option maxHeartbeats 1000000 in
theorem insNode_any (x cmp : Value) (n : Nat) (hn : n ≤ 1) (w : World) : Calls Tryz.prog 118 #[x, .int .i64 0, .int .i64 n, cmp] w fun e w' => e = .returned (.tuple #[]) ∧ w' = w := by
  have hd : decide ((1 : Int) < (n : Int)) = false := decide_eq_false (by omega)
  go_enter Tryz.func118, Tryz.ntmps118
  go_wp2
  go_loopw [8] (fun i wr => i = .int .i64 1 ∧ wr = w) (fun _ _ => 0)
  case atStart => exact ⟨rfl, rfl⟩
  case round =>
    obtain ⟨rfl, rfl⟩ := hrel
    go_wp2
    go_end0
    exact ⟨rfl, rfl⟩
set_option maxHeartbeats 1000000 in
theorem stabNode_any (x cmp : Value) (n : Nat) (hn : n ≤ 1) (w : World) : Calls Tryz.prog 96 #[x, .int .i64 n, cmp] w fun e w' => e = .returned (.tuple #[]) ∧ w' = w := by
  have hI := Lib.hid (insNode_any x cmp n hn w)
  have hd : decide ((20 : Int) ≤ (n : Int)) = false := decide_eq_false (by omega)
  have hd2 : decide ((20 : Int) < (n : Int)) = false := decide_eq_false (by omega)
  go_enter Tryz.func96, Tryz.ntmps96
  go_wp2
  go_loopw [7, 8] (fun a b wr => a = .int .i64 0 ∧ b = .int .i64 20 ∧ wr = w) (fun _ _ _ => 0)
  case atStart => exact ⟨rfl, rfl, rfl⟩
  case round =>
    obtain ⟨rfl, rfl, rfl⟩ := hrel
    go_wp2_with fail
    refine hI.out.mono ?_
    rintro e w2 ⟨rfl, rfl⟩
    go_wp2
    go_loopw [6] (fun a wr => a = .int .i64 20 ∧ wr = w2) (fun _ _ => 0)
    case atStart => exact ⟨rfl, rfl⟩
    case round =>
      obtain ⟨rfl, rfl⟩ := hrel
      go_wp2
      go_end0
      exact ⟨rfl, rfl⟩
theorem sortNode_any (A : Option Addr) (c : Nat) (cmp : Value) (n : Nat) (hn : n ≤ 1) (w : World) : Calls Tryz.prog 69 #[.slice A n c, cmp] w fun e w' => e = .returned (.tuple #[]) ∧ w' = w := by
  have hI := Lib.hid (stabNode_any (.slice A n c) cmp n hn w)
  go_enter Tryz.func69, Tryz.ntmps69
  go_wp2_with fail
  refine hI.out.mono ?_
  rintro e w2 ⟨rfl, rfl⟩
  go_wp2
  go_end0
  exact ⟨rfl, rfl⟩

set_option maxHeartbeats 1000000 in
theorem insRel_any (x cmp : Value) (n : Nat) (hn : n ≤ 1) (w : World) : Calls Tryz.prog 120 #[x, .int .i64 0, .int .i64 n, cmp] w fun e w' => e = .returned (.tuple #[]) ∧ w' = w := by
  have hd : decide ((1 : Int) < (n : Int)) = false := decide_eq_false (by omega)
  go_enter Tryz.func120, Tryz.ntmps120
  go_wp2
  go_loopw [8] (fun i wr => i = .int .i64 1 ∧ wr = w) (fun _ _ => 0)
  case atStart => exact ⟨rfl, rfl⟩
  case round =>
    obtain ⟨rfl, rfl⟩ := hrel
    go_wp2
    go_end0
    exact ⟨rfl, rfl⟩
set_option maxHeartbeats 1000000 in
theorem stabRel_any (x cmp : Value) (n : Nat) (hn : n ≤ 1) (w : World) : Calls Tryz.prog 98 #[x, .int .i64 n, cmp] w fun e w' => e = .returned (.tuple #[]) ∧ w' = w := by
  have hI := Lib.hid (insRel_any x cmp n hn w)
  have hd : decide ((20 : Int) ≤ (n : Int)) = false := decide_eq_false (by omega)
  have hd2 : decide ((20 : Int) < (n : Int)) = false := decide_eq_false (by omega)
  go_enter Tryz.func98, Tryz.ntmps98
  go_wp2
  go_loopw [7, 8] (fun a b wr => a = .int .i64 0 ∧ b = .int .i64 20 ∧ wr = w) (fun _ _ _ => 0)
  case atStart => exact ⟨rfl, rfl, rfl⟩
  case round =>
    obtain ⟨rfl, rfl, rfl⟩ := hrel
    go_wp2_with fail
    refine hI.out.mono ?_
    rintro e w2 ⟨rfl, rfl⟩
    go_wp2
    go_loopw [6] (fun a wr => a = .int .i64 20 ∧ wr = w2) (fun _ _ => 0)
    case atStart => exact ⟨rfl, rfl⟩
    case round =>
      obtain ⟨rfl, rfl⟩ := hrel
      go_wp2
      go_end0
      exact ⟨rfl, rfl⟩
theorem sortRel_any (A : Option Addr) (c : Nat) (cmp : Value) (n : Nat) (hn : n ≤ 1) (w : World) : Calls Tryz.prog 73 #[.slice A n c, cmp] w fun e w' => e = .returned (.tuple #[]) ∧ w' = w := by
  have hI := Lib.hid (stabRel_any (.slice A n c) cmp n hn w)
  go_enter Tryz.func73, Tryz.ntmps73
  go_wp2_with fail
  refine hI.out.mono ?_
  rintro e w2 ⟨rfl, rfl⟩
  go_wp2
  go_end0
  exact ⟨rfl, rfl⟩

set_option maxHeartbeats 1000000 in
theorem canonProps_nil (c : Nat) (w : World) : Calls Tryz.prog 68 #[.slice none 0 c] w fun e w' => e = .returned (.slice none 0 0) ∧ w' = w := by
  have hS := fun (c : Nat) (w : World) => sortProp_any none c (.func (.func 94) #[] #[]) 0 (by omega) w
  have hS := Lib.hid hS
  go_enter Tryz.func68, Tryz.ntmps68
  go_wp2_with fail
  refine (cloneProps_nil _ _).mono ?_
  rintro e w1 ⟨rfl, rfl⟩
  go_wp2
  go_loopw [10] (fun i wr => i = .int .i64 0 ∧ wr = w1) (fun _ _ => 0)
  case atStart => exact ⟨rfl, rfl⟩
  case round =>
    obtain ⟨rfl, rfl⟩ := hrel
    go_wp2_with fail
    refine (hS.out _ _).mono ?_
    rintro e w2 ⟨rfl, rfl⟩
    go_wp2
    go_ret
    exact ⟨rfl, rfl⟩

theorem canon_node_info : (Tryz.prog.info? 40).map (fun i => ((i.zero.map (·.cells.size)), i.size)) = some (some 3, 3) := by kernel_rfl
theorem canon_node_bytes : ((Tryz.prog.info? 40).map (·.bytes)).all (· ≤ 1000) = true := by kernel_rfl
set_option maxHeartbeats 1000000 in
theorem cloneNode_one (i : Int) (g c : Nat) (w : World) (h : Blk w g 40 #[.int .i64 i, .slice none 0 0, .slice none 0 0]) :
    Calls Tryz.prog 66 #[.slice (some ⟨g, 0, none⟩) 1 c] w fun e w' => ∃ g' cap cs, e = .returned (.slice (some ⟨g', 0, none⟩) 1 cap) ∧ w.heap.size ≤ g' ∧ Blk w' g' 40 cs ∧ cs.toList.take 3 = [.int .i64 i, .slice none 0 0, .slice none 0 0] ∧ Below w.heap.size w w' := by
  obtain ⟨i0, hi, hz, hs, hby⟩ : ∃ i0, Tryz.prog.info? 40 = some i0 ∧ (∃ z, i0.zero = some z ∧ z.cells.size = 3) ∧ i0.size = 3 ∧ i0.bytes ≤ 1000 := by
    have h1 := canon_node_info
    have h2 := canon_node_bytes
    rcases hq : Tryz.prog.info? 40 with _ | i0
    · rw [hq] at h1; cases h1
    · rw [hq] at h1 h2
      simp only [Option.map_some, Option.some.injEq, Prod.mk.injEq] at h1
      simp only [Option.map_some, Option.all_some, decide_eq_true_eq] at h2
      rcases hz : i0.zero with _ | z
      · rw [hz] at h1; simp at h1
      · rw [hz] at h1
        simp only [Option.map_some, Option.some.injEq] at h1
        exact ⟨i0, rfl, ⟨z, hz, h1.1⟩, h1.2, h2⟩
  obtain ⟨z, hz0, hz1⟩ := hz
  have H := Lib.hid h
  have hnl := Lib.run_eql_slice_nil (P := Tryz.prog) w 24 40 (some ⟨g, 0, none⟩) 1 c 0 0 Tryz.underlying24
  simp only [Option.isNone_some] at hnl
  clear h
  go_enter Tryz.func66, Tryz.ntmps66
  go_wp2_with (at_builtin; refine wpList_append_own _ rfl _ _ 24 rfl w.heap.size 40 i0 z 3 i0.bytes Tryz.underlying24 hi hz0 hs rfl hz1 (by omega) _ _ _ rfl (World.ownsRow_made w #[] 0 (Nat.le_refl _) (Nat.zero_le _) (by simp)) ⟨g, 0, none⟩ 1 c [.int .i64 i, .slice none 0 0, .slice none 0 0] rfl (by simp) ?qc2 ?qc3 (by unfold maxLen; omega) (by omega) (by simp) ?_)
  case qc2 =>
    intro j u hj
    rw [Addr.add_lit, (H.out.alloc _).cell]
    rw [Nat.zero_add]
    simpa using hj
  case qc3 =>
    intro u hu
    simp only [List.mem_cons, List.not_mem_nil, or_false] at hu
    rcases hu with rfl | rfl | rfl <;> rfl
  intro v' w1 hown hgrow hnil
  go_wp2
  go_ret
  have hb : Below w.heap.size w w1 := ((Below.refl _ w).alloc (Nat.le_refl _) _).grown hgrow (by simp) (by intro k hk; simp [Value.ownBlock] at hk; omega)
  obtain ⟨-, ⟨-, h0⟩ | ⟨g', cap, cur, hv, hg', hbk, hc1, hc2, hcs, ht⟩⟩ := hown
  · omega
  · exact ⟨g', cap, cur, by rw [hv]; rfl, hg', hbk, by simpa using ht, hb⟩

set_option maxHeartbeats 2000000 in
theorem canonNodes_one (i : Int) (g c : Nat) (w : World) (h : Blk w g 40 #[.int .i64 i, .slice none 0 0, .slice none 0 0]) :
    Calls Tryz.prog 44 #[.slice (some ⟨g, 0, none⟩) 1 c] w fun e w' => ∃ A cap, e = .returned (.slice A 1 cap) ∧ Below w.heap.size w w' := by
  have HC := Lib.hid (cloneNode_one i g c w h)
  have hS := Lib.hid fun (A : Option Addr) (c : Nat) (w : World) => sortNode_any A c (.func (.func 70) #[] #[]) 1 (by omega) w
  clear h
  go_enter Tryz.func44, Tryz.ntmps44
  go_wp2_with fail
  refine HC.out.mono ?_
  rintro e w1 ⟨g1, cap, cs, rfl, hg1, hbk, hcs, hb1⟩
  have hcs0 : ∀ j, j < 3 → cs[j]? = ([.int .i64 i, .slice none 0 0, .slice none 0 0] : List Value)[j]? := fun j hj => by
    rw [← hcs, List.getElem?_take_of_lt hj, Array.getElem?_toList]
  have hrel0 : cs[0]? = some (.int .i64 i) ∧ cs[1]? = some (.slice none 0 0) ∧ cs[2]? = some (.slice none 0 0) := ⟨by rw [hcs0 0 (by omega)]; rfl, by rw [hcs0 1 (by omega)]; rfl, by rw [hcs0 2 (by omega)]; rfl⟩
  clear hcs hcs0
  go_wp2
  go_loopw [10] (fun li wr => ∃ k : Nat, k ≤ 1 ∧ li = .int .i64 k ∧ Below w.heap.size w wr ∧ ∃ cs : Array Value, Blk wr g1 40 cs ∧ cs[0]? = some (.int .i64 i) ∧ cs[1]? = some (.slice none 0 0) ∧ cs[2]? = some (.slice none 0 0)) (fun li _ => 1 - (intOf li).toNat)
  case atStart => exact ⟨0, by omega, rfl, hb1, cs, hbk, hrel0⟩
  case round =>
    obtain ⟨k, hk, rfl, hbw, cs2, hbk2, q0, q1, q2⟩ := hrel
    clear hrel0 hbk
    have hgl := hbk2.lt
    have hsz := hbw.size
    have hcsz : 3 ≤ cs2.size := by have := (Array.getElem?_eq_some_iff.1 q2).1; omega
    have hcsz : ∀ j, j < 3 → j < cs2.size := fun j hj => by omega
    have z0 : wr.cell? ⟨g1, 0, none⟩ = some (.int .i64 i) := by rw [hbk2.cell 0]; exact q0
    have z1 : wr.cell? ⟨g1, 1, none⟩ = some (.slice none 0 0) := by rw [hbk2.cell 1]; exact q1
    have z2 : wr.cell? ⟨g1, 2, none⟩ = some (.slice none 0 0) := by rw [hbk2.cell 2]; exact q2
    have y0 := hbk2.frozen 0
    have y1 := hbk2.frozen 1
    have y2 := hbk2.frozen 2
    by_cases h0 : k = 0
    · subst h0
      obtain ⟨o, ho⟩ : ∃ o, o = Obj.cells #[.int .i64 i, .slice none 0 0, .slice none 0 0] 40 := ⟨_, rfl⟩
      have hbk3 := hbk2.alloc o
      have hbw3 : Below w.heap.size w (wr.alloc o) := hbw.alloc hsz _
      rw [ho] at hbk3 hbw3
      clear ho
      go_wp2_with fail
      refine (canonLabels_nil _ _).mono ?_
      rintro e w9 ⟨rfl, rfl⟩
      go_wp2_with fail
      refine (canonProps_nil _ _).mono ?_
      rintro e w9 ⟨rfl, rfl⟩
      go_wp2
      go_roundw
      case rel =>
        refine ⟨1, by omega, by go_num, ?_, _, ((hbk2.set_ 1 _).set_ 2 _).alloc _, Eq.trans (b := cs2[0]?) (by simp) q0, by simp [hcsz], by simp [hcsz]⟩
        exact ((hbw.setCell (p := ⟨g1, 1, none⟩) hg1 _).setCell (p := ⟨g1, 2, none⟩) hg1 _).alloc (by simp; omega) _
      case measure => simp [intOf]
    · obtain rfl : k = 1 := by omega
      go_wp2_with fail
      refine (hS.out _ _ _).mono ?_
      rintro e w9 ⟨rfl, rfl⟩
      go_wp2
      go_ret
      exact ⟨_, _, rfl, hbw⟩

theorem canon_rel_info : (Tryz.prog.info? 47).map (fun i => ((i.zero.map (·.cells.size)), i.size)) = some (some 5, 5) := by kernel_rfl
theorem canon_rel_bytes : ((Tryz.prog.info? 47).map (·.bytes)).all (· ≤ 1000) = true := by kernel_rfl
set_option maxHeartbeats 1000000 in
theorem cloneRel_one (i a b : Int) (s : ByteArray) (g c : Nat) (w : World) (h : Blk w g 47 #[.int .i64 i, .string s, .int .i64 a, .int .i64 b, .slice none 0 0]) :
    Calls Tryz.prog 72 #[.slice (some ⟨g, 0, none⟩) 1 c] w fun e w' => ∃ g' cap cs, e = .returned (.slice (some ⟨g', 0, none⟩) 1 cap) ∧ w.heap.size ≤ g' ∧ Blk w' g' 47 cs ∧ cs.toList.take 5 = [.int .i64 i, .string s, .int .i64 a, .int .i64 b, .slice none 0 0] ∧ Below w.heap.size w w' := by
  obtain ⟨i0, hi, hz, hs, hby⟩ : ∃ i0, Tryz.prog.info? 47 = some i0 ∧ (∃ z, i0.zero = some z ∧ z.cells.size = 5) ∧ i0.size = 5 ∧ i0.bytes ≤ 1000 := by
    have h1 := canon_rel_info
    have h2 := canon_rel_bytes
    rcases hq : Tryz.prog.info? 47 with _ | i0
    · rw [hq] at h1; cases h1
    · rw [hq] at h1 h2
      simp only [Option.map_some, Option.some.injEq, Prod.mk.injEq] at h1
      simp only [Option.map_some, Option.all_some, decide_eq_true_eq] at h2
      rcases hz : i0.zero with _ | z
      · rw [hz] at h1; simp at h1
      · rw [hz] at h1
        simp only [Option.map_some, Option.some.injEq] at h1
        exact ⟨i0, rfl, ⟨z, hz, h1.1⟩, h1.2, h2⟩
  obtain ⟨z, hz0, hz1⟩ := hz
  have H := Lib.hid h
  have hnl := Lib.run_eql_slice_nil (P := Tryz.prog) w 25 47 (some ⟨g, 0, none⟩) 1 c 0 0 Tryz.underlying25
  simp only [Option.isNone_some] at hnl
  clear h
  go_enter Tryz.func72, Tryz.ntmps72
  go_wp2_with (at_builtin; refine wpList_append_own _ rfl _ _ 25 rfl w.heap.size 47 i0 z 5 i0.bytes Tryz.underlying25 hi hz0 hs rfl hz1 (by omega) _ _ _ rfl (World.ownsRow_made w #[] 0 (Nat.le_refl _) (Nat.zero_le _) (by simp)) ⟨g, 0, none⟩ 1 c [.int .i64 i, .string s, .int .i64 a, .int .i64 b, .slice none 0 0] rfl (by simp) ?qc2 ?qc3 (by unfold maxLen; omega) (by omega) (by simp) ?_)
  case qc2 =>
    intro j u hj
    rw [Addr.add_lit, (H.out.alloc _).cell]
    rw [Nat.zero_add]
    simpa using hj
  case qc3 =>
    intro u hu
    simp only [List.mem_cons, List.not_mem_nil, or_false] at hu
    rcases hu with rfl | rfl | rfl | rfl | rfl <;> rfl
  intro v' w1 hown hgrow hnil
  go_wp2
  go_ret
  have hb : Below w.heap.size w w1 := ((Below.refl _ w).alloc (Nat.le_refl _) _).grown hgrow (by simp) (by intro k hk; simp [Value.ownBlock] at hk; omega)
  obtain ⟨-, ⟨-, h0⟩ | ⟨g', cap, cur, hv, hg', hbk, hc1, hc2, hcs, ht⟩⟩ := hown
  · omega
  · exact ⟨g', cap, cur, by rw [hv]; rfl, hg', hbk, by simpa using ht, hb⟩

set_option maxHeartbeats 2000000 in
theorem canonRels_one (i a b : Int) (s : ByteArray) (g c : Nat) (w : World) (h : Blk w g 47 #[.int .i64 i, .string s, .int .i64 a, .int .i64 b, .slice none 0 0]) :
    Calls Tryz.prog 45 #[.slice (some ⟨g, 0, none⟩) 1 c] w fun e w' => ∃ A cap, e = .returned (.slice A 1 cap) ∧ Below w.heap.size w w' := by
  have HC := Lib.hid (cloneRel_one i a b s g c w h)
  have hS := Lib.hid fun (A : Option Addr) (c : Nat) (w : World) => sortRel_any A c (.func (.func 74) #[] #[]) 1 (by omega) w
  clear h
  go_enter Tryz.func45, Tryz.ntmps45
  go_wp2_with fail
  refine HC.out.mono ?_
  rintro e w1 ⟨g1, cap, cs, rfl, hg1, hbk, hcs, hb1⟩
  have hcs0 : ∀ j, j < 5 → cs[j]? = ([.int .i64 i, .string s, .int .i64 a, .int .i64 b, .slice none 0 0] : List Value)[j]? := fun j hj => by
    rw [← hcs, List.getElem?_take_of_lt hj, Array.getElem?_toList]
  have hrel0 : cs[0]? = some (.int .i64 i) ∧ cs[1]? = some (.string s) ∧ cs[2]? = some (.int .i64 a) ∧ cs[3]? = some (.int .i64 b) ∧ cs[4]? = some (.slice none 0 0) := ⟨by rw [hcs0 0 (by omega)]; rfl, by rw [hcs0 1 (by omega)]; rfl, by rw [hcs0 2 (by omega)]; rfl, by rw [hcs0 3 (by omega)]; rfl, by rw [hcs0 4 (by omega)]; rfl⟩
  clear hcs hcs0
  go_wp2
  go_loopw [10] (fun li wr => ∃ k : Nat, k ≤ 1 ∧ li = .int .i64 k ∧ Below w.heap.size w wr ∧ ∃ cs : Array Value, Blk wr g1 47 cs ∧ cs[0]? = some (.int .i64 i) ∧ cs[1]? = some (.string s) ∧ cs[2]? = some (.int .i64 a) ∧ cs[3]? = some (.int .i64 b) ∧ cs[4]? = some (.slice none 0 0)) (fun li _ => 1 - (intOf li).toNat)
  case atStart => exact ⟨0, by omega, rfl, hb1, cs, hbk, hrel0⟩
  case round =>
    obtain ⟨k, hk, rfl, hbw, cs2, hbk2, q0, q1, q2, q3, q4⟩ := hrel
    clear hrel0 hbk
    have hgl := hbk2.lt
    have hsz := hbw.size
    have hcsz : 5 ≤ cs2.size := by have := (Array.getElem?_eq_some_iff.1 q4).1; omega
    have hcsz : ∀ j, j < 5 → j < cs2.size := fun j hj => by omega
    have z0 : wr.cell? ⟨g1, 0, none⟩ = some (.int .i64 i) := by rw [hbk2.cell 0]; exact q0
    have z1 : wr.cell? ⟨g1, 1, none⟩ = some (.string s) := by rw [hbk2.cell 1]; exact q1
    have z2 : wr.cell? ⟨g1, 2, none⟩ = some (.int .i64 a) := by rw [hbk2.cell 2]; exact q2
    have z3 : wr.cell? ⟨g1, 3, none⟩ = some (.int .i64 b) := by rw [hbk2.cell 3]; exact q3
    have z4 : wr.cell? ⟨g1, 4, none⟩ = some (.slice none 0 0) := by rw [hbk2.cell 4]; exact q4
    have y0 := hbk2.frozen 0
    have y1 := hbk2.frozen 1
    have y2 := hbk2.frozen 2
    have y3 := hbk2.frozen 3
    have y4 := hbk2.frozen 4
    by_cases h0 : k = 0
    · subst h0
      obtain ⟨o, ho⟩ : ∃ o, o = Obj.cells #[.int .i64 i, .string s, .int .i64 a, .int .i64 b, .slice none 0 0] 47 := ⟨_, rfl⟩
      have hbk3 := hbk2.alloc o
      have hbw3 : Below w.heap.size w (wr.alloc o) := hbw.alloc hsz _
      rw [ho] at hbk3 hbw3
      clear ho
      go_wp2_with fail

      refine (canonProps_nil _ _).mono ?_
      rintro e w9 ⟨rfl, rfl⟩
      go_wp2
      go_roundw
      case rel =>
        refine ⟨1, by omega, by go_num, ?_, _, (hbk2.set_ 4 _).alloc _, Eq.trans (b := cs2[0]?) (by simp) q0, Eq.trans (b := cs2[1]?) (by simp) q1, Eq.trans (b := cs2[2]?) (by simp) q2, Eq.trans (b := cs2[3]?) (by simp) q3, by simp [hcsz]⟩
        exact (hbw.setCell (p := ⟨g1, 4, none⟩) hg1 _).alloc (by simp; omega) _
      case measure => simp [intOf]
    · obtain rfl : k = 1 := by omega
      go_wp2_with fail
      refine (hS.out _ _ _).mono ?_
      rintro e w9 ⟨rfl, rfl⟩
      go_wp2
      go_ret
      exact ⟨_, _, rfl, hbw⟩

end Go.Proofs.YthnaipgdjbaebaaGreat

/- The program's Canon of a graph of one node and one relationship, each without lists, whole. -/
namespace Go.Proofs.YthnaipgdjbaebaaGreat
open Go.RowKit
set_option linter.unusedVariables false

set_option maxRecDepth 100000 in
set_option maxHeartbeats 2000000 in
theorem gCanon_one (n i a b : Int) (s : ByteArray) (g c g' c' : Nat) (w : World) (hn : Blk w g 40 #[.int .i64 n, .slice none 0 0, .slice none 0 0]) (hr : Blk w g' 47 #[.int .i64 i, .string s, .int .i64 a, .int .i64 b, .slice none 0 0]) :
    Calls Tryz.prog 22 #[.agg #[.slice (some ⟨g, 0, none⟩) 1 c, .slice (some ⟨g', 0, none⟩) 1 c']] w fun e w' => ∃ A c A' c', e = .returned (.agg #[.slice A 1 c, .slice A' 1 c']) ∧ Below w.heap.size w w' := by
  obtain ⟨wo, hwo⟩ : ∃ x, x = (w.alloc (.cells #[.slice (some ⟨g, 0, none⟩) 1 c, .slice (some ⟨g', 0, none⟩) 1 c'] 27)).alloc (.cells #[.slice none 0 0, .slice none 0 0] 27) := ⟨_, rfl⟩
  have hbo : Below w.heap.size w wo := by rw [hwo]; exact ((Below.refl _ _).alloc (Nat.le_refl _) _).alloc (by simp) _
  have B0 : Blk wo w.heap.size 27 #[.slice (some ⟨g, 0, none⟩) 1 c, .slice (some ⟨g', 0, none⟩) 1 c'] := by subst hwo; exact (Blk.new _ _ _).alloc _
  have B1 : Blk wo (w.heap.size + 1) 27 #[.slice none 0 0, .slice none 0 0] := by
    subst hwo
    have := Blk.new (w.alloc (.cells #[.slice (some ⟨g, 0, none⟩) 1 c, .slice (some ⟨g', 0, none⟩) 1 c'] 27)) 27 #[.slice none 0 0, .slice none 0 0]
    simpa using this
  have B2 := hn.below hbo hn.lt
  have B3 := hr.below hbo hr.lt
  have hl0 := B0.lt
  have hl1 := B1.lt
  have hl2 := B2.lt
  have hl3 := B3.lt
  have HN : Hid (∀ w', Below wo.heap.size wo w' → Calls Tryz.prog 44 #[.slice (some ⟨g, 0, none⟩) 1 c] w' fun e w'' => ∃ A cap, e = .returned (.slice A 1 cap) ∧ Below wo.heap.size wo w'') := Lib.hid fun w' hb => (canonNodes_one n g c w' (B2.below hb hl2)).mono fun e w'' ⟨A, cap, h1, h2⟩ => ⟨A, cap, h1, hb.trans (h2.mono hb.size)⟩
  have HR : Hid (∀ w', Below wo.heap.size wo w' → Calls Tryz.prog 45 #[.slice (some ⟨g', 0, none⟩) 1 c'] w' fun e w'' => ∃ A cap, e = .returned (.slice A 1 cap) ∧ Below wo.heap.size wo w'') := Lib.hid fun w' hb => (canonRels_one i a b s g' c' w' (B3.below hb hl3)).mono fun e w'' ⟨A, cap, h1, h2⟩ => ⟨A, cap, h1, hb.trans (h2.mono hb.size)⟩
  have HF : Hid (∀ w', Below wo.heap.size wo w' → w'.cell? ⟨w.heap.size, 0, none⟩ = some (.slice (some ⟨g, 0, none⟩) 1 c) ∧ w'.cell? ⟨w.heap.size, 1, none⟩ = some (.slice (some ⟨g', 0, none⟩) 1 c') ∧ w'.cell? ⟨w.heap.size + 1, 0, none⟩ = some (.slice none 0 0) ∧ w'.cell? ⟨w.heap.size + 1, 1, none⟩ = some (.slice none 0 0) ∧ w'.frozen? ⟨w.heap.size + 1, 0, none⟩ = false ∧ w'.frozen? ⟨w.heap.size + 1, 1, none⟩ = false) := Lib.hid fun w' hb => by
    have b0 := B0.below hb hl0
    have b1 := B1.below hb hl1
    exact ⟨by rw [b0.cell]; rfl, by rw [b0.cell]; rfl, by rw [b1.cell]; rfl, by rw [b1.cell]; rfl, b1.frozen 0, b1.frozen 1⟩
  have HK : Hid (∀ w', Below wo.heap.size wo w' → Blk w' (w.heap.size + 1) 27 #[.slice none 0 0, .slice none 0 0]) := Lib.hid fun w' hb => B1.below hb hl1
  have HB : Hid (∀ w', Below wo.heap.size wo w' → Below w.heap.size w w') := Lib.hid fun w' hb => hbo.trans (hb.mono hbo.size)
  have hb0 : Below wo.heap.size wo wo.drew := ⟨rfl, rfl, rfl, Nat.le_refl _, fun _ _ => rfl⟩
  obtain ⟨c0, c1, c2, c3, f0, f1⟩ := HF.out wo (Below.refl _ _)
  have Hwo := Lib.hid hwo
  clear hwo B0 B1 B2 B3 hl2 hl3 hn hr hbo
  go_enter Tryz.func22, Tryz.ntmps22
  go_wp2
  rw [← Hwo.out]
  go_region_held3 (fun w' => w'.cell? ⟨w.heap.size, 0, none⟩ = some (.slice (some ⟨g, 0, none⟩) 1 c) ∧ w'.cell? ⟨w.heap.size, 1, none⟩ = some (.slice (some ⟨g', 0, none⟩) 1 c')) (go_keep)
    ((first
      | (go_at_call 44; refine (HN.out _ (by first | exact hb0 | exact hbR)).mono ?_; rintro e w3 ⟨A3, p3, rfl, hbN⟩; have kN := HF.out _ hbN; obtain ⟨_, _, _, _, _, _⟩ := kN)
      | (go_at_call 45; refine (HR.out _ (by first | exact hb0 | exact hbN)).mono ?_; rintro e w4 ⟨A4, p4, rfl, hbR⟩; have kR := HF.out _ hbR; obtain ⟨_, _, _, _, _, _⟩ := kR)))
  have hbl := HB.out _ hbR
  have hbk := ((HK.out _ hbR).set_ 0 (.slice A3 1 p3)).set_ 1 (.slice A4 1 p4)
  go_wp2
  try simp only [Exit.inBlock, Exit.then]
  refine bodyPost_ret (results_cell_row rfl _ _ (w.heap.size + 1) 27 #[.slice A3 1 p3, .slice A4 1 p4] (0, 0) _ rfl hbk Tryz.underlying27 rfl (by kernel_rfl)) rfl ?_
  exact ⟨_, _, _, _, rfl, (hbl.setCell (p := ⟨w.heap.size + 1, 0, none⟩) (by simp) _).setCell (p := ⟨w.heap.size + 1, 1, none⟩) (by simp) _⟩

end Go.Proofs.YthnaipgdjbaebaaGreat
