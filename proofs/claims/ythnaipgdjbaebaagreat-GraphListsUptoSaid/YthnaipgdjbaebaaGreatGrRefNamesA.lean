/- The document's Names: labels. -/
import Derived.Test.YthnaipgdjbaebaaGreatGrSortedA
import Derived.Test.YthnaipgdjbaebaaGreatGrCopyA
namespace Go.Proofs.YthnaipgdjbaebaaGreat
open Go.RowKit
set_option linter.unusedVariables false

set_option maxRecDepth 100000 in
set_option maxHeartbeats 4000000 in
theorem refNamesL_any (g : Gv) (s : Int) (hs : s = 1) (A A' : Option Addr) (c c' B : Nat) (w : World) (h : GR w B g A A') (hB : B ≤ w.heap.size) (hl : (g.nodes.flatMap (fun n : Nv => n.labels) ++ g.rels.flatMap (fun _ : Rv => ([] : List ByteArray))).length ≤ 1099511627776) :
    Calls Tryz.prog 27 #[gagg g A c A' c', .int .i64 s] w (NewSt (srt (g.nodes.flatMap (fun n : Nv => n.labels) ++ g.rels.flatMap (fun _ : Rv => ([] : List ByteArray)))) w) := by
  obtain ⟨j0, hj, hy0, hy1, hy2⟩ := info_parts str_info
  have f1 : (s == 1) = true := by simp [hs]
  have f2 : (s == 2) = false := by simp [hs]
  have f3 : (s == 3) = false := by simp [hs]
  obtain ⟨h1, h2, hl1, hl2⟩ := h
  obtain ⟨N, R⟩ := g
  simp only [gagg] at h1 h2 hl1 hl2 hl ⊢
  rw [List.length_append] at hl
  have H1 := Lib.hid h1
  have H2 := Lib.hid h2
  have hNt : ∀ k, ((N.take k).flatMap (fun n : Nv => n.labels)).length ≤ (N.flatMap (fun n : Nv => n.labels)).length := fun k => by
    have := congrArg (fun l => (l.flatMap (fun n : Nv => n.labels)).length) (List.take_append_drop k N)
    simp only [List.flatMap_append, List.length_append] at this
    omega
  have hRt : ∀ k, ((R.take k).flatMap (fun _ : Rv => ([] : List ByteArray))).length ≤ (R.flatMap (fun _ : Rv => ([] : List ByteArray))).length := fun k => by
    have := congrArg (fun l => (l.flatMap (fun _ : Rv => ([] : List ByteArray))).length) (List.take_append_drop k R)
    simp only [List.flatMap_append, List.length_append] at this
    omega
  have HNt := Lib.hid hNt
  have HRt := Lib.hid hRt
  have h0 := ((St.start Zf w).newBlk 27 #[.slice A N.length c, .slice A' R.length c']).newNil svl 9 (n := w.heap.size + 1) (by simp)
  obtain ⟨x0, x1⟩ := gr_cells h0.swap
  clear h1 h2 hNt hRt
  go_enter Tryz.func27, Tryz.ntmps27
  go_wp2
  go_loopw [5, 6] (fun v i wr => ∃ (out : List ByteArray) (Ao : Option Addr) (co k : Nat), k ≤ N.length ∧ v = .slice Ao out.length co ∧ i = .int .i64 k ∧ out = (N.take k).flatMap (fun n : Nv => n.labels) ∧ St Zf [OlA svl 9 (.slice Ao out.length co) out, BlkA w.heap.size 27 #[.slice A N.length c, .slice A' R.length c']] w wr) (fun _ i _ => N.length - (intOf i).toNat)
  case atStart => exact ⟨[], _, _, 0, Nat.zero_le _, rfl, rfl, rfl, h0⟩
  case round =>
    obtain ⟨out, Ao, co, k, hk, rfl, rfl, hout, hst⟩ := hrel
    clear h0 x0 x1
    obtain ⟨x0, x1⟩ := gr_cells hst.swap
    have hbw := hst.bel
    have hsz := hbw.size
    by_cases hlt : k < N.length
    · obtain ⟨p, hp⟩ : ∃ p, N[k]? = some p := ⟨_, List.getElem?_eq_getElem hlt⟩
      have htk : N.take (k + 1) = N.take k ++ [p] := by
        rw [List.take_succ_eq_append_getElem hlt]
        rw [List.getElem?_eq_getElem hlt] at hp
        injection hp with hp
        rw [hp]
      obtain ⟨b, off, rfl, hbB, A2, c2, A3, c3, hc, hr1, hr2, -, hs1, hs2, -⟩ := (NodesR.below H1.out (hbw.mono hB)) k _ hp
      obtain ⟨q0, q1, q2⟩ := node_cells hc
      have hnew : (N.take (k + 1)).flatMap (fun n : Nv => n.labels) = out ++ (fun n : Nv => n.labels) p := by rw [htk, List.flatMap_append, ← hout]; simp
      have hnl := HNt.out (k + 1)
      rw [hnew, List.length_append] at hnl
      have Hnew := Lib.hid hnew
      obtain ⟨pid, pl, pp⟩ := p
      simp only at q0 q1 q2 hr1 hr2 hs1 hs2 hnl Hnew
      have hi0 : (0 : Int) ≤ (k : Int) := by omega
      have hi1 : (k : Int) < (N.length : Int) := by omega
      have hn := hst.newBlk 40 #[.int .i64 pid, .slice A2 pl.length c2, .slice A3 pp.length c3]
      obtain ⟨w1, hw1⟩ : ∃ x, x = wr.alloc (.cells #[.int .i64 pid, .slice A2 pl.length c2, .slice A3 pp.length c3] 40) := ⟨_, rfl⟩
      rw [← hw1] at hn
      have Hw1 := Lib.hid hw1
      obtain ⟨y0, y1, y2⟩ := nd_cells hn
      have hb1 := hn.bel
      have hrl := hr1.below (show Below B wr w1 by rw [hw1]; exact (Below.refl _ _).alloc (by omega) _)
      clear hc hr1 hp htk hout hst hw1 hnew
      have hby : (out.length + pl.length) * 16 ≤ 140737488355328 := by omega
      have hns := hn.swap
      go_wp2_with (at_builtin; rw [← Hw1.out]; refine wpList_append_list _ rfl _ _ 37 rfl 0 9 j0 _ 16 Tryz.underlying37 hj hy0 hy1 hy2 rfl _ out (by rfl) hns.ol A2 c2 B pl pl.length rfl (by rfl) hrl hby (by omega) (Nat.zero_le _) ?_; intro v7 w7 hown7 hg7 hat7; have h7 := hns.grewOl hown7 hg7 hat7 (Nat.le_refl _); rw [← Hnew.out] at h7 hown7; obtain ⟨O, hO⟩ : ∃ O, O = (N.take (k + 1)).flatMap (fun n : Nv => n.labels) := ⟨_, rfl⟩; rw [← hO] at h7 hown7; have HO := Lib.hid hO; obtain ⟨A7, c7, rfl, -, -, -, -⟩ := hown7.form; obtain ⟨z0, z1, z2⟩ := nd_cells h7.swap; clear hown7 hg7 hat7 hO hn hns y0 y1 y2 q0 q1 q2 x0 x1 hrl)
      go_loopw [5, 8] (fun v j wr => v = .slice A7 O.length c7 ∧ j = .int .i64 0 ∧ wr = w7) (fun _ _ _ => 0)
      case atStart => exact ⟨rfl, rfl, rfl⟩
      case round =>
        obtain ⟨rfl, rfl, rfl⟩ := hrel
        by_cases hz : pp.length = 0
        · have hd : decide ((0 : Int) < (pp.length : Int)) = false := decide_eq_false (by omega)
          go_wp2
          go_roundw
          case rel => exact ⟨O, A7, c7, k + 1, by omega, rfl, by go_num, HO.out, h7.swap.drop⟩
          case measure => simp [intOf]; omega
        · have hd : decide ((0 : Int) < (pp.length : Int)) = true := decide_eq_true (by omega)
          go_wp2
          go_roundw
          case rel => exact ⟨O, A7, c7, k + 1, by omega, rfl, by go_num, HO.out, h7.swap.drop⟩
          case measure => simp [intOf]; omega
    · obtain rfl : k = N.length := by omega
      rw [List.take_length] at hout
      rw [← hout] at hl
      have HO1 := Lib.hid hout
      clear hout
      go_wp2
      clear x0 x1
      go_loopw [5, 9] (fun v i wr => ∃ (O : List ByteArray) (Ao : Option Addr) (co k : Nat), k ≤ R.length ∧ v = .slice Ao O.length co ∧ i = .int .i64 k ∧ O = out ++ (R.take k).flatMap (fun _ : Rv => ([] : List ByteArray)) ∧ St Zf [OlA svl 9 (.slice Ao O.length co) O, BlkA w.heap.size 27 #[.slice A N.length c, .slice A' R.length c']] w wr) (fun _ i _ => R.length - (intOf i).toNat)
      case atStart => exact ⟨out, _, _, 0, Nat.zero_le _, rfl, rfl, by simp, hst⟩
      case round =>
        rename_i wq _ _ wr
        obtain ⟨O, Ao, co, k, hk, rfl, rfl, hO, hst⟩ := hrel
        clear hbw hsz
        obtain ⟨x0, x1⟩ := gr_cells hst.swap
        have hbw := hst.bel
        have hsz := hbw.size
        by_cases hlt : k < R.length
        · obtain ⟨p, hp⟩ : ∃ p, R[k]? = some p := ⟨_, List.getElem?_eq_getElem hlt⟩
          have htk : R.take (k + 1) = R.take k ++ [p] := by
            rw [List.take_succ_eq_append_getElem hlt]
            rw [List.getElem?_eq_getElem hlt] at hp
            injection hp with hp
            rw [hp]
          obtain ⟨b, off, rfl, hbB, A3, c3, hc, hr2, -, -, -, -, hs2⟩ := (RelsR.below H2.out (hbw.mono hB)) k _ hp
          obtain ⟨q0, q1, q2, q3, q4⟩ := rel_cells hc
          have hnew : out ++ (R.take (k + 1)).flatMap (fun _ : Rv => ([] : List ByteArray)) = O ++ (fun _ : Rv => ([] : List ByteArray)) p := by rw [htk, List.flatMap_append, hO]; simp
          have hnl := HRt.out (k + 1)
          have hnl2 := congrArg List.length hnew
          rw [List.length_append, List.length_append] at hnl2
          have Hnew := Lib.hid hnew
          obtain ⟨pid, pt, ps, pd, pp⟩ := p
          simp only at q0 q1 q2 q3 q4 hr2 hs2 hnl2 Hnew
          have hi0 : (0 : Int) ≤ (k : Int) := by omega
          have hi1 : (k : Int) < (R.length : Int) := by omega
          have hn := hst.newBlk 47 #[.int .i64 pid, .string pt, .int .i64 ps, .int .i64 pd, .slice A3 pp.length c3]
          obtain ⟨w1, hw1⟩ : ∃ x, x = wr.alloc (.cells #[.int .i64 pid, .string pt, .int .i64 ps, .int .i64 pd, .slice A3 pp.length c3] 47) := ⟨_, rfl⟩
          rw [← hw1] at hn
          have Hw1 := Lib.hid hw1
          obtain ⟨y0, y1, y2, y3, y4⟩ := rl_cells hn
          clear hc hp htk hO hst hw1 hnew hr2
          have hns := hn.swap
          go_wp2
          rw [← Hw1.out]
          go_loopw [5, 11] (fun v j wr => v = .slice Ao O.length co ∧ j = .int .i64 0 ∧ wr = w1) (fun _ _ _ => 0)
          case atStart => exact ⟨rfl, rfl, rfl⟩
          case round =>
            obtain ⟨rfl, rfl, rfl⟩ := hrel
            by_cases hz : pp.length = 0
            · have hd : decide ((0 : Int) < (pp.length : Int)) = false := decide_eq_false (by omega)
              go_wp2
              go_roundw
              case rel => exact ⟨O, Ao, co, k + 1, by omega, rfl, by go_num, by rw [Hnew.out]; simp, hns.swap.drop⟩
              case measure => simp [intOf]; omega
            · have hd : decide ((0 : Int) < (pp.length : Int)) = true := decide_eq_true (by omega)
              go_wp2
              go_roundw
              case rel => exact ⟨O, Ao, co, k + 1, by omega, rfl, by go_num, by rw [Hnew.out]; simp, hns.swap.drop⟩
              case measure => simp [intOf]; omega
        · obtain rfl : k = R.length := by omega
          rw [List.take_length] at hO
          have hE : O = N.flatMap (fun n : Nv => n.labels) ++ R.flatMap (fun _ : Rv => ([] : List ByteArray)) := by rw [hO, HO1.out]
          have hol : O.length ≤ 1099511627776 := by rw [hO, List.length_append]; exact hl
          have hfr := hst.ol.reads
          have hT := Lib.hid (refSorted_any O.length O Ao co wr.heap.size wr (Nat.le_refl _) hfr.2.1 (Nat.le_refl _) hfr.2.2.1 hol)
          have HE := Lib.hid hE
          clear hO hE hfr hol
          go_wp2_with fail
          refine hT.out.mono ?_
          rintro e w8 ⟨v8, rfl, ho8, hb8⟩
          obtain ⟨A8, c8, rfl, -, -, -, -⟩ := ho8.form
          go_wp2
          go_ret
          rw [← HE.out]
          exact ⟨_, rfl, ho8.mono hsz, hbw.trans (hb8.mono hsz)⟩

end Go.Proofs.YthnaipgdjbaebaaGreat

/- The document's Names: types. -/
namespace Go.Proofs.YthnaipgdjbaebaaGreat
open Go.RowKit
set_option linter.unusedVariables false

set_option maxRecDepth 100000 in
set_option maxHeartbeats 4000000 in
theorem refNamesT_any (g : Gv) (s : Int) (hs : s = 2) (A A' : Option Addr) (c c' B : Nat) (w : World) (h : GR w B g A A') (hB : B ≤ w.heap.size) (hl : (g.nodes.flatMap (fun _ : Nv => ([] : List ByteArray)) ++ g.rels.flatMap (fun r : Rv => [r.typ])).length ≤ 1099511627776) :
    Calls Tryz.prog 27 #[gagg g A c A' c', .int .i64 s] w (NewSt (srt (g.nodes.flatMap (fun _ : Nv => ([] : List ByteArray)) ++ g.rels.flatMap (fun r : Rv => [r.typ]))) w) := by
  obtain ⟨j0, hj, hy0, hy1, hy2⟩ := info_parts str_info
  have f1 : (s == 1) = false := by simp [hs]
  have f2 : (s == 2) = true := by simp [hs]
  have f3 : (s == 3) = false := by simp [hs]
  obtain ⟨h1, h2, hl1, hl2⟩ := h
  obtain ⟨N, R⟩ := g
  simp only [gagg] at h1 h2 hl1 hl2 hl ⊢
  rw [List.length_append] at hl
  have H1 := Lib.hid h1
  have H2 := Lib.hid h2
  have hNt : ∀ k, ((N.take k).flatMap (fun _ : Nv => ([] : List ByteArray))).length ≤ (N.flatMap (fun _ : Nv => ([] : List ByteArray))).length := fun k => by
    have := congrArg (fun l => (l.flatMap (fun _ : Nv => ([] : List ByteArray))).length) (List.take_append_drop k N)
    simp only [List.flatMap_append, List.length_append] at this
    omega
  have hRt : ∀ k, ((R.take k).flatMap (fun r : Rv => [r.typ])).length ≤ (R.flatMap (fun r : Rv => [r.typ])).length := fun k => by
    have := congrArg (fun l => (l.flatMap (fun r : Rv => [r.typ])).length) (List.take_append_drop k R)
    simp only [List.flatMap_append, List.length_append] at this
    omega
  have HNt := Lib.hid hNt
  have HRt := Lib.hid hRt
  have h0 := ((St.start Zf w).newBlk 27 #[.slice A N.length c, .slice A' R.length c']).newNil svl 9 (n := w.heap.size + 1) (by simp)
  obtain ⟨x0, x1⟩ := gr_cells h0.swap
  clear h1 h2 hNt hRt
  go_enter Tryz.func27, Tryz.ntmps27
  go_wp2
  go_loopw [5, 6] (fun v i wr => ∃ (out : List ByteArray) (Ao : Option Addr) (co k : Nat), k ≤ N.length ∧ v = .slice Ao out.length co ∧ i = .int .i64 k ∧ out = (N.take k).flatMap (fun _ : Nv => ([] : List ByteArray)) ∧ St Zf [OlA svl 9 (.slice Ao out.length co) out, BlkA w.heap.size 27 #[.slice A N.length c, .slice A' R.length c']] w wr) (fun _ i _ => N.length - (intOf i).toNat)
  case atStart => exact ⟨[], _, _, 0, Nat.zero_le _, rfl, rfl, rfl, h0⟩
  case round =>
    obtain ⟨out, Ao, co, k, hk, rfl, rfl, hout, hst⟩ := hrel
    clear h0 x0 x1
    obtain ⟨x0, x1⟩ := gr_cells hst.swap
    have hbw := hst.bel
    have hsz := hbw.size
    by_cases hlt : k < N.length
    · obtain ⟨p, hp⟩ : ∃ p, N[k]? = some p := ⟨_, List.getElem?_eq_getElem hlt⟩
      have htk : N.take (k + 1) = N.take k ++ [p] := by
        rw [List.take_succ_eq_append_getElem hlt]
        rw [List.getElem?_eq_getElem hlt] at hp
        injection hp with hp
        rw [hp]
      obtain ⟨b, off, rfl, hbB, A2, c2, A3, c3, hc, hr1, hr2, -, hs1, hs2, -⟩ := (NodesR.below H1.out (hbw.mono hB)) k _ hp
      obtain ⟨q0, q1, q2⟩ := node_cells hc
      have hnew : (N.take (k + 1)).flatMap (fun _ : Nv => ([] : List ByteArray)) = out ++ (fun _ : Nv => ([] : List ByteArray)) p := by rw [htk, List.flatMap_append, ← hout]; simp
      have hnl := HNt.out (k + 1)
      rw [hnew, List.length_append] at hnl
      have Hnew := Lib.hid hnew
      obtain ⟨pid, pl, pp⟩ := p
      simp only at q0 q1 q2 hr1 hr2 hs1 hs2 hnl Hnew
      have hi0 : (0 : Int) ≤ (k : Int) := by omega
      have hi1 : (k : Int) < (N.length : Int) := by omega
      have hn := hst.newBlk 40 #[.int .i64 pid, .slice A2 pl.length c2, .slice A3 pp.length c3]
      obtain ⟨w1, hw1⟩ : ∃ x, x = wr.alloc (.cells #[.int .i64 pid, .slice A2 pl.length c2, .slice A3 pp.length c3] 40) := ⟨_, rfl⟩
      rw [← hw1] at hn
      have Hw1 := Lib.hid hw1
      obtain ⟨y0, y1, y2⟩ := nd_cells hn
      have hb1 := hn.bel
      have hrl := hr1.below (show Below B wr w1 by rw [hw1]; exact (Below.refl _ _).alloc (by omega) _)
      clear hc hr1 hp htk hout hst hw1 hnew
      have hns := hn.swap
      go_wp2
      rw [← Hw1.out]
      go_loopw [5, 8] (fun v j wr => v = .slice Ao out.length co ∧ j = .int .i64 0 ∧ wr = w1) (fun _ _ _ => 0)
      case atStart => exact ⟨rfl, rfl, rfl⟩
      case round =>
        obtain ⟨rfl, rfl, rfl⟩ := hrel
        by_cases hz : pp.length = 0
        · have hd : decide ((0 : Int) < (pp.length : Int)) = false := decide_eq_false (by omega)
          go_wp2
          go_roundw
          case rel => exact ⟨out, Ao, co, k + 1, by omega, rfl, by go_num, by rw [Hnew.out]; simp, hns.swap.drop⟩
          case measure => simp [intOf]; omega
        · have hd : decide ((0 : Int) < (pp.length : Int)) = true := decide_eq_true (by omega)
          go_wp2
          go_roundw
          case rel => exact ⟨out, Ao, co, k + 1, by omega, rfl, by go_num, by rw [Hnew.out]; simp, hns.swap.drop⟩
          case measure => simp [intOf]; omega
    · obtain rfl : k = N.length := by omega
      rw [List.take_length] at hout
      rw [← hout] at hl
      have HO1 := Lib.hid hout
      clear hout
      go_wp2
      clear x0 x1
      go_loopw [5, 9] (fun v i wr => ∃ (O : List ByteArray) (Ao : Option Addr) (co k : Nat), k ≤ R.length ∧ v = .slice Ao O.length co ∧ i = .int .i64 k ∧ O = out ++ (R.take k).flatMap (fun r : Rv => [r.typ]) ∧ St Zf [OlA svl 9 (.slice Ao O.length co) O, BlkA w.heap.size 27 #[.slice A N.length c, .slice A' R.length c']] w wr) (fun _ i _ => R.length - (intOf i).toNat)
      case atStart => exact ⟨out, _, _, 0, Nat.zero_le _, rfl, rfl, by simp, hst⟩
      case round =>
        rename_i wq _ _ wr
        obtain ⟨O, Ao, co, k, hk, rfl, rfl, hO, hst⟩ := hrel
        clear hbw hsz
        obtain ⟨x0, x1⟩ := gr_cells hst.swap
        have hbw := hst.bel
        have hsz := hbw.size
        by_cases hlt : k < R.length
        · obtain ⟨p, hp⟩ : ∃ p, R[k]? = some p := ⟨_, List.getElem?_eq_getElem hlt⟩
          have htk : R.take (k + 1) = R.take k ++ [p] := by
            rw [List.take_succ_eq_append_getElem hlt]
            rw [List.getElem?_eq_getElem hlt] at hp
            injection hp with hp
            rw [hp]
          obtain ⟨b, off, rfl, hbB, A3, c3, hc, hr2, -, -, -, -, hs2⟩ := (RelsR.below H2.out (hbw.mono hB)) k _ hp
          obtain ⟨q0, q1, q2, q3, q4⟩ := rel_cells hc
          have hnew : out ++ (R.take (k + 1)).flatMap (fun r : Rv => [r.typ]) = O ++ (fun r : Rv => [r.typ]) p := by rw [htk, List.flatMap_append, hO]; simp
          have hnl := HRt.out (k + 1)
          have hnl2 := congrArg List.length hnew
          rw [List.length_append, List.length_append] at hnl2
          have Hnew := Lib.hid hnew
          obtain ⟨pid, pt, ps, pd, pp⟩ := p
          simp only at q0 q1 q2 q3 q4 hr2 hs2 hnl2 Hnew
          have hi0 : (0 : Int) ≤ (k : Int) := by omega
          have hi1 : (k : Int) < (R.length : Int) := by omega
          have hn := hst.newBlk 47 #[.int .i64 pid, .string pt, .int .i64 ps, .int .i64 pd, .slice A3 pp.length c3]
          obtain ⟨w1, hw1⟩ : ∃ x, x = wr.alloc (.cells #[.int .i64 pid, .string pt, .int .i64 ps, .int .i64 pd, .slice A3 pp.length c3] 47) := ⟨_, rfl⟩
          rw [← hw1] at hn
          have Hw1 := Lib.hid hw1
          obtain ⟨y0, y1, y2, y3, y4⟩ := rl_cells hn
          clear hc hp htk hO hst hw1 hnew hr2
          obtain ⟨L7, hL7⟩ : ∃ L, L = O ++ [pt] := ⟨_, rfl⟩
          have HL := Lib.hid hL7
          have hby : (O.length + 1) * 16 ≤ 140737488355328 := by simp only [List.length_cons, List.length_nil] at hnl2; omega
          have hns := hn.swap
          clear hL7 hn
          have HN : Hid (w1.heap.size = wr.heap.size + 1) := Lib.hid (by rw [Hw1.out]; exact Array.size_push _)
          go_wp2_with (at_builtin; rw [← Hw1.out]; refine wpList_append_elemN _ rfl _ _ 37 rfl 0 9 j0 _ 16 Tryz.underlying37 hj hy0 hy1 hy2 rfl _ O (by rfl) hns.ol pt (svl_ok pt) _ HN.out (by rfl) hby (by omega) (Nat.zero_le _) ?_; intro v7 w7 hown7 hg7 hat7; have h7 := hns.grewOl hown7 hg7 hat7 (by simp); rw [← HL.out] at h7 hown7; obtain ⟨A7, c7, rfl, -, -, -, -⟩ := hown7.form; obtain ⟨z0, z1, z2, z3, z4⟩ := rl_cells h7.swap; clear hown7 hg7 hat7 hns y0 y1 y2 y3 y4 q0 q1 q2 q3 q4 x0 x1)
          go_loopw [5, 11] (fun v j wr => v = .slice A7 L7.length c7 ∧ j = .int .i64 0 ∧ wr = w7) (fun _ _ _ => 0)
          case atStart => exact ⟨rfl, rfl, rfl⟩
          case round =>
            obtain ⟨rfl, rfl, rfl⟩ := hrel
            by_cases hz : pp.length = 0
            · have hd : decide ((0 : Int) < (pp.length : Int)) = false := decide_eq_false (by omega)
              go_wp2
              go_roundw
              case rel => exact ⟨L7, A7, c7, k + 1, by omega, rfl, by go_num, by rw [Hnew.out, HL.out], h7.swap.drop⟩
              case measure => simp [intOf]; omega
            · have hd : decide ((0 : Int) < (pp.length : Int)) = true := decide_eq_true (by omega)
              go_wp2
              go_roundw
              case rel => exact ⟨L7, A7, c7, k + 1, by omega, rfl, by go_num, by rw [Hnew.out, HL.out], h7.swap.drop⟩
              case measure => simp [intOf]; omega
        · obtain rfl : k = R.length := by omega
          rw [List.take_length] at hO
          have hE : O = N.flatMap (fun _ : Nv => ([] : List ByteArray)) ++ R.flatMap (fun r : Rv => [r.typ]) := by rw [hO, HO1.out]
          have hol : O.length ≤ 1099511627776 := by rw [hO, List.length_append]; exact hl
          have hfr := hst.ol.reads
          have hT := Lib.hid (refSorted_any O.length O Ao co wr.heap.size wr (Nat.le_refl _) hfr.2.1 (Nat.le_refl _) hfr.2.2.1 hol)
          have HE := Lib.hid hE
          clear hO hE hfr hol
          go_wp2_with fail
          refine hT.out.mono ?_
          rintro e w8 ⟨v8, rfl, ho8, hb8⟩
          obtain ⟨A8, c8, rfl, -, -, -, -⟩ := ho8.form
          go_wp2
          go_ret
          rw [← HE.out]
          exact ⟨_, rfl, ho8.mono hsz, hbw.trans (hb8.mono hsz)⟩

end Go.Proofs.YthnaipgdjbaebaaGreat

/- The document's Names: keys. -/
namespace Go.Proofs.YthnaipgdjbaebaaGreat
open Go.RowKit
set_option linter.unusedVariables false

set_option maxRecDepth 100000 in
set_option maxHeartbeats 4000000 in
theorem refNamesK_any (g : Gv) (s : Int) (hs : s = 3) (A A' : Option Addr) (c c' B : Nat) (w : World) (h : GR w B g A A') (hB : B ≤ w.heap.size) (hl : (g.nodes.flatMap (fun n : Nv => n.props.map (·.key)) ++ g.rels.flatMap (fun r : Rv => r.props.map (·.key))).length ≤ 1099511627776) :
    Calls Tryz.prog 27 #[gagg g A c A' c', .int .i64 s] w (NewSt (srt (g.nodes.flatMap (fun n : Nv => n.props.map (·.key)) ++ g.rels.flatMap (fun r : Rv => r.props.map (·.key)))) w) := by
  obtain ⟨j0, hj, hy0, hy1, hy2⟩ := info_parts str_info
  have f1 : (s == 1) = false := by simp [hs]
  have f2 : (s == 2) = false := by simp [hs]
  have f3 : (s == 3) = true := by simp [hs]
  obtain ⟨h1, h2, hl1, hl2⟩ := h
  obtain ⟨N, R⟩ := g
  simp only [gagg] at h1 h2 hl1 hl2 hl ⊢
  rw [List.length_append] at hl
  have H1 := Lib.hid h1
  have H2 := Lib.hid h2
  have hNt : ∀ k, ((N.take k).flatMap (fun n : Nv => n.props.map (·.key))).length ≤ (N.flatMap (fun n : Nv => n.props.map (·.key))).length := fun k => by
    have := congrArg (fun l => (l.flatMap (fun n : Nv => n.props.map (·.key))).length) (List.take_append_drop k N)
    simp only [List.flatMap_append, List.length_append] at this
    omega
  have hRt : ∀ k, ((R.take k).flatMap (fun r : Rv => r.props.map (·.key))).length ≤ (R.flatMap (fun r : Rv => r.props.map (·.key))).length := fun k => by
    have := congrArg (fun l => (l.flatMap (fun r : Rv => r.props.map (·.key))).length) (List.take_append_drop k R)
    simp only [List.flatMap_append, List.length_append] at this
    omega
  have HNt := Lib.hid hNt
  have HRt := Lib.hid hRt
  have h0 := ((St.start Zf w).newBlk 27 #[.slice A N.length c, .slice A' R.length c']).newNil svl 9 (n := w.heap.size + 1) (by simp)
  obtain ⟨x0, x1⟩ := gr_cells h0.swap
  clear h1 h2 hNt hRt
  go_enter Tryz.func27, Tryz.ntmps27
  go_wp2
  go_loopw [5, 6] (fun v i wr => ∃ (out : List ByteArray) (Ao : Option Addr) (co k : Nat), k ≤ N.length ∧ v = .slice Ao out.length co ∧ i = .int .i64 k ∧ out = (N.take k).flatMap (fun n : Nv => n.props.map (·.key)) ∧ St Zf [OlA svl 9 (.slice Ao out.length co) out, BlkA w.heap.size 27 #[.slice A N.length c, .slice A' R.length c']] w wr) (fun _ i _ => N.length - (intOf i).toNat)
  case atStart => exact ⟨[], _, _, 0, Nat.zero_le _, rfl, rfl, rfl, h0⟩
  case round =>
    obtain ⟨out, Ao, co, k, hk, rfl, rfl, hout, hst⟩ := hrel
    clear h0 x0 x1
    obtain ⟨x0, x1⟩ := gr_cells hst.swap
    have hbw := hst.bel
    have hsz := hbw.size
    by_cases hlt : k < N.length
    · obtain ⟨p, hp⟩ : ∃ p, N[k]? = some p := ⟨_, List.getElem?_eq_getElem hlt⟩
      have htk : N.take (k + 1) = N.take k ++ [p] := by
        rw [List.take_succ_eq_append_getElem hlt]
        rw [List.getElem?_eq_getElem hlt] at hp
        injection hp with hp
        rw [hp]
      obtain ⟨b, off, rfl, hbB, A2, c2, A3, c3, hc, hr1, hr2, -, hs1, hs2, -⟩ := (NodesR.below H1.out (hbw.mono hB)) k _ hp
      obtain ⟨q0, q1, q2⟩ := node_cells hc
      have hnew : (N.take (k + 1)).flatMap (fun n : Nv => n.props.map (·.key)) = out ++ (fun n : Nv => n.props.map (·.key)) p := by rw [htk, List.flatMap_append, ← hout]; simp
      have hnl := HNt.out (k + 1)
      rw [hnew, List.length_append] at hnl
      have Hnew := Lib.hid hnew
      obtain ⟨pid, pl, pp⟩ := p
      simp only at q0 q1 q2 hr1 hr2 hs1 hs2 hnl Hnew
      have hi0 : (0 : Int) ≤ (k : Int) := by omega
      have hi1 : (k : Int) < (N.length : Int) := by omega
      have hn := hst.newBlk 40 #[.int .i64 pid, .slice A2 pl.length c2, .slice A3 pp.length c3]
      obtain ⟨w1, hw1⟩ : ∃ x, x = wr.alloc (.cells #[.int .i64 pid, .slice A2 pl.length c2, .slice A3 pp.length c3] 40) := ⟨_, rfl⟩
      rw [← hw1] at hn
      have Hw1 := Lib.hid hw1
      obtain ⟨y0, y1, y2⟩ := nd_cells hn
      have hb1 := hn.bel
      have hrl := hr1.below (show Below B wr w1 by rw [hw1]; exact (Below.refl _ _).alloc (by omega) _)
      have Hpp : Hid (PropsR w B A3 pp) := Lib.hid (by
        obtain ⟨b', off', e, hbB', A2', c2', A3', c3', hc', -, hr2', -⟩ := H1.out k _ hp
        have hcw := hc'.below (hbw.mono hB) hbB'
        injection e with e
        injection e with e1 e2 _
        subst e1 e2
        have e3 := hc 2 _ rfl
        rw [hcw 2 _ rfl] at e3
        injection e3 with e3
        injection e3 with e3 _ _
        subst e3
        exact hr2')
      clear hc hr1 hp htk hout hst hw1 hnew
      have hns := hn.swap
      go_wp2
      rw [← Hw1.out]
      go_loopw [5, 8] (fun v jj wx => ∃ (O : List ByteArray) (Ao : Option Addr) (co j : Nat), j ≤ pp.length ∧ v = .slice Ao O.length co ∧ jj = .int .i64 j ∧ O = out ++ (pp.take j).map (·.key) ∧ St Zf [OlA svl 9 (.slice Ao O.length co) O, BlkA wr.heap.size 40 #[.int .i64 pid, .slice A2 pl.length c2, .slice A3 pp.length c3], BlkA w.heap.size 27 #[.slice (some ⟨b, off, none⟩) N.length c, .slice A' R.length c']] w wx) (fun _ jj _ => pp.length - (intOf jj).toNat)
      case atStart => exact ⟨out, Ao, co, 0, Nat.zero_le _, rfl, rfl, by simp, hns⟩
      case round =>
        obtain ⟨O, A9, c9, j, hjp, rfl, rfl, hO, hs9⟩ := hrel
        clear hns hn y0 y1 y2 x0 x1 q0 q1 q2
        obtain ⟨y0, y1, y2⟩ := nd_cells hs9.swap
        by_cases hlj : j < pp.length
        · have hb9 := hs9.bel
          obtain ⟨r, hr⟩ : ∃ r, pp[j]? = some r := ⟨_, List.getElem?_eq_getElem hlj⟩
          obtain ⟨b2, off2, rfl, hbB2, B1, d1, B2, d2, hc2, -⟩ := (PropsR.below Hpp.out (hb9.mono hB)) j _ hr
          obtain ⟨p0, p1, p2, p3, p4, p5⟩ := prop_cells hc2
          have htj : pp.take (j + 1) = pp.take j ++ [r] := by
            rw [List.take_succ_eq_append_getElem hlj]
            rw [List.getElem?_eq_getElem hlj] at hr
            injection hr with hr
            rw [hr]
          have HO2 : Hid (O ++ [r.key] = out ++ (pp.take (j + 1)).map (·.key)) := Lib.hid (by rw [htj, List.map_append, hO]; simp)
          have hol : O.length = out.length + j := by rw [hO, List.length_append, List.length_map, List.length_take]; omega
          have hj0' : (0 : Int) ≤ (j : Int) := by omega
          have hj1' : (j : Int) < (pp.length : Int) := by omega
          have hby : (O.length + 1) * 16 ≤ 140737488355328 := by rw [List.length_map] at hnl; omega
          have hd : decide ((j : Int) < (pp.length : Int)) = true := decide_eq_true (by omega)
          obtain ⟨x, hx⟩ : ∃ x, x = r.key := ⟨_, rfl⟩
          rw [← hx] at HO2 p0
          obtain ⟨L7, hL7⟩ : ∃ L, L = O ++ [x] := ⟨_, rfl⟩
          rw [← hL7] at HO2
          have HL := Lib.hid hL7
          clear hc2 hr htj hO hL7 hx hol p1 p2 p3 p4 p5
          go_wp2_with (at_builtin; refine wpList_append_elem _ rfl _ _ 37 rfl 0 9 j0 _ 16 Tryz.underlying37 hj hy0 hy1 hy2 rfl _ O (by rfl) hs9.ol x (svl_ok x) (by rfl) hby (by omega) (Nat.zero_le _) ?_; intro v7 w7 hown7 hg7 hat7; have h7 := hs9.grewOl hown7 hg7 hat7 (by simp); rw [← HL.out] at h7 hown7; obtain ⟨A7, c7, rfl, -, -, -, -⟩ := hown7.form; clear hown7 hg7 hat7)
          go_roundw
          case rel => exact ⟨L7, A7, c7, j + 1, by omega, rfl, by go_num, HO2.out, h7⟩
          case measure => simp [intOf]; omega
        · obtain rfl : j = pp.length := by omega
          rw [List.take_length] at hO
          have HO := Lib.hid hO
          clear hO
          go_wp2
          go_roundw
          case rel => exact ⟨O, A9, c9, k + 1, by omega, rfl, by go_num, by rw [Hnew.out, HO.out], hs9.swap.drop⟩
          case measure => simp [intOf]; omega
    · obtain rfl : k = N.length := by omega
      rw [List.take_length] at hout
      rw [← hout] at hl
      have HO1 := Lib.hid hout
      clear hout
      go_wp2
      clear x0 x1
      go_loopw [5, 9] (fun v i wr => ∃ (O : List ByteArray) (Ao : Option Addr) (co k : Nat), k ≤ R.length ∧ v = .slice Ao O.length co ∧ i = .int .i64 k ∧ O = out ++ (R.take k).flatMap (fun r : Rv => r.props.map (·.key)) ∧ St Zf [OlA svl 9 (.slice Ao O.length co) O, BlkA w.heap.size 27 #[.slice A N.length c, .slice A' R.length c']] w wr) (fun _ i _ => R.length - (intOf i).toNat)
      case atStart => exact ⟨out, _, _, 0, Nat.zero_le _, rfl, rfl, by simp, hst⟩
      case round =>
        rename_i wq _ _ wr
        obtain ⟨O, Ao, co, k, hk, rfl, rfl, hO, hst⟩ := hrel
        clear hbw hsz
        obtain ⟨x0, x1⟩ := gr_cells hst.swap
        have hbw := hst.bel
        have hsz := hbw.size
        by_cases hlt : k < R.length
        · obtain ⟨p, hp⟩ : ∃ p, R[k]? = some p := ⟨_, List.getElem?_eq_getElem hlt⟩
          have htk : R.take (k + 1) = R.take k ++ [p] := by
            rw [List.take_succ_eq_append_getElem hlt]
            rw [List.getElem?_eq_getElem hlt] at hp
            injection hp with hp
            rw [hp]
          obtain ⟨b, off, rfl, hbB, A3, c3, hc, hr2, -, -, -, -, hs2⟩ := (RelsR.below H2.out (hbw.mono hB)) k _ hp
          obtain ⟨q0, q1, q2, q3, q4⟩ := rel_cells hc
          have hnew : out ++ (R.take (k + 1)).flatMap (fun r : Rv => r.props.map (·.key)) = O ++ (fun r : Rv => r.props.map (·.key)) p := by rw [htk, List.flatMap_append, hO]; simp
          have hnl := HRt.out (k + 1)
          have hnl2 := congrArg List.length hnew
          rw [List.length_append, List.length_append] at hnl2
          have Hnew := Lib.hid hnew
          obtain ⟨pid, pt, ps, pd, pp⟩ := p
          simp only at q0 q1 q2 q3 q4 hr2 hs2 hnl2 Hnew
          have hi0 : (0 : Int) ≤ (k : Int) := by omega
          have hi1 : (k : Int) < (R.length : Int) := by omega
          have hn := hst.newBlk 47 #[.int .i64 pid, .string pt, .int .i64 ps, .int .i64 pd, .slice A3 pp.length c3]
          obtain ⟨w1, hw1⟩ : ∃ x, x = wr.alloc (.cells #[.int .i64 pid, .string pt, .int .i64 ps, .int .i64 pd, .slice A3 pp.length c3] 47) := ⟨_, rfl⟩
          rw [← hw1] at hn
          have Hw1 := Lib.hid hw1
          obtain ⟨y0, y1, y2, y3, y4⟩ := rl_cells hn
          have Hpp : Hid (PropsR w B A3 pp) := Lib.hid (by
            obtain ⟨b', off', e, hbB', A3', c3', hc', hr2', -⟩ := H2.out k _ hp
            have hcw := hc'.below (hbw.mono hB) hbB'
            injection e with e
            injection e with e1 e2 _
            subst e1 e2
            have e3 := hc 4 _ rfl
            rw [hcw 4 _ rfl] at e3
            injection e3 with e3
            injection e3 with e3 _ _
            subst e3
            exact hr2')
          clear hc hp htk hO hst hw1 hnew hr2
          have hns := hn.swap
          go_wp2
          rw [← Hw1.out]
          go_loopw [5, 11] (fun v jj wx => ∃ (O2 : List ByteArray) (A4 : Option Addr) (c4 j : Nat), j ≤ pp.length ∧ v = .slice A4 O2.length c4 ∧ jj = .int .i64 j ∧ O2 = O ++ (pp.take j).map (·.key) ∧ St Zf [OlA svl 9 (.slice A4 O2.length c4) O2, BlkA wr.heap.size 47 #[.int .i64 pid, .string pt, .int .i64 ps, .int .i64 pd, .slice A3 pp.length c3], BlkA w.heap.size 27 #[.slice A N.length c, .slice (some ⟨b, off, none⟩) R.length c']] w wx) (fun _ jj _ => pp.length - (intOf jj).toNat)
          case atStart => exact ⟨O, Ao, co, 0, Nat.zero_le _, rfl, rfl, by simp, hns⟩
          case round =>
            obtain ⟨O2, A9, c9, j, hjp, rfl, rfl, hO2, hs9⟩ := hrel
            clear hns hn y0 y1 y2 y3 y4 x0 x1 q0 q1 q2 q3 q4
            obtain ⟨y0, y1, y2, y3, y4⟩ := rl_cells hs9.swap
            by_cases hlj : j < pp.length
            · have hb9 := hs9.bel
              obtain ⟨r, hr⟩ : ∃ r, pp[j]? = some r := ⟨_, List.getElem?_eq_getElem hlj⟩
              obtain ⟨b2, off2, rfl, hbB2, B1, d1, B2, d2, hc2, -⟩ := (PropsR.below Hpp.out (hb9.mono hB)) j _ hr
              obtain ⟨p0, p1, p2, p3, p4, p5⟩ := prop_cells hc2
              have htj : pp.take (j + 1) = pp.take j ++ [r] := by
                rw [List.take_succ_eq_append_getElem hlj]
                rw [List.getElem?_eq_getElem hlj] at hr
                injection hr with hr
                rw [hr]
              have HO2 : Hid (O2 ++ [r.key] = O ++ (pp.take (j + 1)).map (·.key)) := Lib.hid (by rw [htj, List.map_append, hO2]; simp)
              have hol : O2.length = O.length + j := by rw [hO2, List.length_append, List.length_map, List.length_take]; omega
              have hj0' : (0 : Int) ≤ (j : Int) := by omega
              have hj1' : (j : Int) < (pp.length : Int) := by omega
              have hby : (O2.length + 1) * 16 ≤ 140737488355328 := by rw [List.length_map] at hnl2; omega
              have hd : decide ((j : Int) < (pp.length : Int)) = true := decide_eq_true (by omega)
              obtain ⟨x, hx⟩ : ∃ x, x = r.key := ⟨_, rfl⟩
              rw [← hx] at HO2 p0
              obtain ⟨L7, hL7⟩ : ∃ L, L = O2 ++ [x] := ⟨_, rfl⟩
              rw [← hL7] at HO2
              have HL := Lib.hid hL7
              clear hc2 hr htj hO2 hL7 hx hol p1 p2 p3 p4 p5
              go_wp2_with (at_builtin; refine wpList_append_elem _ rfl _ _ 37 rfl 0 9 j0 _ 16 Tryz.underlying37 hj hy0 hy1 hy2 rfl _ O2 (by rfl) hs9.ol x (svl_ok x) (by rfl) hby (by omega) (Nat.zero_le _) ?_; intro v7 w7 hown7 hg7 hat7; have h7 := hs9.grewOl hown7 hg7 hat7 (by simp); rw [← HL.out] at h7 hown7; obtain ⟨A7, c7, rfl, -, -, -, -⟩ := hown7.form; clear hown7 hg7 hat7)
              go_roundw
              case rel => exact ⟨L7, A7, c7, j + 1, by omega, rfl, by go_num, HO2.out, h7⟩
              case measure => simp [intOf]; omega
            · obtain rfl : j = pp.length := by omega
              rw [List.take_length] at hO2
              have HO2 := Lib.hid hO2
              clear hO2
              go_wp2
              go_roundw
              case rel => exact ⟨O2, A9, c9, k + 1, by omega, rfl, by go_num, by rw [Hnew.out, HO2.out], hs9.swap.drop⟩
              case measure => simp [intOf]; omega
        · obtain rfl : k = R.length := by omega
          rw [List.take_length] at hO
          have hE : O = N.flatMap (fun n : Nv => n.props.map (·.key)) ++ R.flatMap (fun r : Rv => r.props.map (·.key)) := by rw [hO, HO1.out]
          have hol : O.length ≤ 1099511627776 := by rw [hO, List.length_append]; exact hl
          have hfr := hst.ol.reads
          have hT := Lib.hid (refSorted_any O.length O Ao co wr.heap.size wr (Nat.le_refl _) hfr.2.1 (Nat.le_refl _) hfr.2.2.1 hol)
          have HE := Lib.hid hE
          clear hO hE hfr hol
          go_wp2_with fail
          refine hT.out.mono ?_
          rintro e w8 ⟨v8, rfl, ho8, hb8⟩
          obtain ⟨A8, c8, rfl, -, -, -, -⟩ := ho8.form
          go_wp2
          go_ret
          rw [← HE.out]
          exact ⟨_, rfl, ho8.mono hsz, hbw.trans (hb8.mono hsz)⟩

end Go.Proofs.YthnaipgdjbaebaaGreat
