/- The document's Names: any other sort. -/
import Derived.Test.YthnaipgdjbaebaaGreatGrSortedA
import Derived.Test.YthnaipgdjbaebaaGreatGrCopyA
namespace Go.Proofs.YthnaipgdjbaebaaGreat
open Go.RowKit
set_option linter.unusedVariables false

set_option maxRecDepth 100000 in
set_option maxHeartbeats 4000000 in
theorem refNamesO_any (g : Gv) (s : Int) (hs1 : s ≠ 1) (hs2 : s ≠ 2) (hs3 : s ≠ 3) (A A' : Option Addr) (c c' B : Nat) (w : World) (h : GR w B g A A') (hB : B ≤ w.heap.size) (hl : (g.nodes.flatMap (fun _ : Nv => ([] : List ByteArray)) ++ g.rels.flatMap (fun _ : Rv => ([] : List ByteArray))).length ≤ 1099511627776) :
    Calls Tryz.prog 27 #[gagg g A c A' c', .int .i64 s] w (NewSt (srt (g.nodes.flatMap (fun _ : Nv => ([] : List ByteArray)) ++ g.rels.flatMap (fun _ : Rv => ([] : List ByteArray)))) w) := by
  obtain ⟨j0, hj, hy0, hy1, hy2⟩ := info_parts str_info
  have f1 : (s == 1) = false := by simp [hs1]
  have f2 : (s == 2) = false := by simp [hs2]
  have f3 : (s == 3) = false := by simp [hs3]
  obtain ⟨h1, h2, hl1, hl2⟩ := h
  obtain ⟨N, R⟩ := g
  simp only [gagg] at h1 h2 hl1 hl2 hl ⊢
  rw [List.length_append] at hl
  have H1 := Lib.hid h1
  have H2 := Lib.hid h2
  have hNt : ∀ k, ((N.take k).flatMap (fun _ : Nv => ([] : List ByteArray))).length ≤ (N.flatMap (fun _ : Nv => ([] : List ByteArray))).length := fun k => by
    have := congrArg (fun l => (l.flatMap (fun _ : Nv => ([] : List ByteArray))).length) (List.take_append_drop k N)
    simp only [List.flatMap_append, List.length_append] at this
    omega
  have hRt : ∀ k, ((R.take k).flatMap (fun _ : Rv => ([] : List ByteArray))).length ≤ (R.flatMap (fun _ : Rv => ([] : List ByteArray))).length := fun k => by
    have := congrArg (fun l => (l.flatMap (fun _ : Rv => ([] : List ByteArray))).length) (List.take_append_drop k R)
    simp only [List.flatMap_append, List.length_append] at this
    omega
  have HNt := Lib.hid hNt
  have HRt := Lib.hid hRt
  have h0 := ((St.start Zf w).newBlk 27 #[.slice A N.length c, .slice A' R.length c']).newNil svl 9 (n := w.heap.size + 1) (by simp)
  obtain ⟨x0, x1⟩ := gr_cells h0.swap
  clear h1 h2 hNt hRt
  go_enter Tryz.func27, Tryz.ntmps27
  go_wp2
  go_loopw [5, 6] (fun v i wr => ∃ (out : List ByteArray) (Ao : Option Addr) (co k : Nat), k ≤ N.length ∧ v = .slice Ao out.length co ∧ i = .int .i64 k ∧ out = (N.take k).flatMap (fun _ : Nv => ([] : List ByteArray)) ∧ St Zf [OlA svl 9 (.slice Ao out.length co) out, BlkA w.heap.size 27 #[.slice A N.length c, .slice A' R.length c']] w wr) (fun _ i _ => N.length - (intOf i).toNat)
  case atStart => exact ⟨[], _, _, 0, Nat.zero_le _, rfl, rfl, rfl, h0⟩
  case round =>
    obtain ⟨out, Ao, co, k, hk, rfl, rfl, hout, hst⟩ := hrel
    clear h0 x0 x1
    obtain ⟨x0, x1⟩ := gr_cells hst.swap
    have hbw := hst.bel
    have hsz := hbw.size
    by_cases hlt : k < N.length
    · obtain ⟨p, hp⟩ : ∃ p, N[k]? = some p := ⟨_, List.getElem?_eq_getElem hlt⟩
      have htk : N.take (k + 1) = N.take k ++ [p] := by
        rw [List.take_succ_eq_append_getElem hlt]
        rw [List.getElem?_eq_getElem hlt] at hp
        injection hp with hp
        rw [hp]
      obtain ⟨b, off, rfl, hbB, A2, c2, A3, c3, hc, hr1, hr2, -, hs1, hs2, -⟩ := (NodesR.below H1.out (hbw.mono hB)) k _ hp
      obtain ⟨q0, q1, q2⟩ := node_cells hc
      have hnew : (N.take (k + 1)).flatMap (fun _ : Nv => ([] : List ByteArray)) = out ++ (fun _ : Nv => ([] : List ByteArray)) p := by rw [htk, List.flatMap_append, ← hout]; simp
      have hnl := HNt.out (k + 1)
      rw [hnew, List.length_append] at hnl
      have Hnew := Lib.hid hnew
      obtain ⟨pid, pl, pp⟩ := p
      simp only at q0 q1 q2 hr1 hr2 hs1 hs2 hnl Hnew
      have hi0 : (0 : Int) ≤ (k : Int) := by omega
      have hi1 : (k : Int) < (N.length : Int) := by omega
      have hn := hst.newBlk 40 #[.int .i64 pid, .slice A2 pl.length c2, .slice A3 pp.length c3]
      obtain ⟨w1, hw1⟩ : ∃ x, x = wr.alloc (.cells #[.int .i64 pid, .slice A2 pl.length c2, .slice A3 pp.length c3] 40) := ⟨_, rfl⟩
      rw [← hw1] at hn
      have Hw1 := Lib.hid hw1
      obtain ⟨y0, y1, y2⟩ := nd_cells hn
      have hb1 := hn.bel
      have hrl := hr1.below (show Below B wr w1 by rw [hw1]; exact (Below.refl _ _).alloc (by omega) _)
      clear hc hr1 hp htk hout hst hw1 hnew
      have hns := hn.swap
      go_wp2
      rw [← Hw1.out]
      go_loopw [5, 8] (fun v j wr => v = .slice Ao out.length co ∧ j = .int .i64 0 ∧ wr = w1) (fun _ _ _ => 0)
      case atStart => exact ⟨rfl, rfl, rfl⟩
      case round =>
        obtain ⟨rfl, rfl, rfl⟩ := hrel
        by_cases hz : pp.length = 0
        · have hd : decide ((0 : Int) < (pp.length : Int)) = false := decide_eq_false (by omega)
          go_wp2
          go_roundw
          case rel => exact ⟨out, Ao, co, k + 1, by omega, rfl, by go_num, by rw [Hnew.out]; simp, hns.swap.drop⟩
          case measure => simp [intOf]; omega
        · have hd : decide ((0 : Int) < (pp.length : Int)) = true := decide_eq_true (by omega)
          go_wp2
          go_roundw
          case rel => exact ⟨out, Ao, co, k + 1, by omega, rfl, by go_num, by rw [Hnew.out]; simp, hns.swap.drop⟩
          case measure => simp [intOf]; omega
    · obtain rfl : k = N.length := by omega
      rw [List.take_length] at hout
      rw [← hout] at hl
      have HO1 := Lib.hid hout
      clear hout
      go_wp2
      clear x0 x1
      go_loopw [5, 9] (fun v i wr => ∃ (O : List ByteArray) (Ao : Option Addr) (co k : Nat), k ≤ R.length ∧ v = .slice Ao O.length co ∧ i = .int .i64 k ∧ O = out ++ (R.take k).flatMap (fun _ : Rv => ([] : List ByteArray)) ∧ St Zf [OlA svl 9 (.slice Ao O.length co) O, BlkA w.heap.size 27 #[.slice A N.length c, .slice A' R.length c']] w wr) (fun _ i _ => R.length - (intOf i).toNat)
      case atStart => exact ⟨out, _, _, 0, Nat.zero_le _, rfl, rfl, by simp, hst⟩
      case round =>
        rename_i wq _ _ wr
        obtain ⟨O, Ao, co, k, hk, rfl, rfl, hO, hst⟩ := hrel
        clear hbw hsz
        obtain ⟨x0, x1⟩ := gr_cells hst.swap
        have hbw := hst.bel
        have hsz := hbw.size
        by_cases hlt : k < R.length
        · obtain ⟨p, hp⟩ : ∃ p, R[k]? = some p := ⟨_, List.getElem?_eq_getElem hlt⟩
          have htk : R.take (k + 1) = R.take k ++ [p] := by
            rw [List.take_succ_eq_append_getElem hlt]
            rw [List.getElem?_eq_getElem hlt] at hp
            injection hp with hp
            rw [hp]
          obtain ⟨b, off, rfl, hbB, A3, c3, hc, hr2, -, -, -, -, hs2⟩ := (RelsR.below H2.out (hbw.mono hB)) k _ hp
          obtain ⟨q0, q1, q2, q3, q4⟩ := rel_cells hc
          have hnew : out ++ (R.take (k + 1)).flatMap (fun _ : Rv => ([] : List ByteArray)) = O ++ (fun _ : Rv => ([] : List ByteArray)) p := by rw [htk, List.flatMap_append, hO]; simp
          have hnl := HRt.out (k + 1)
          have hnl2 := congrArg List.length hnew
          rw [List.length_append, List.length_append] at hnl2
          have Hnew := Lib.hid hnew
          obtain ⟨pid, pt, ps, pd, pp⟩ := p
          simp only at q0 q1 q2 q3 q4 hr2 hs2 hnl2 Hnew
          have hi0 : (0 : Int) ≤ (k : Int) := by omega
          have hi1 : (k : Int) < (R.length : Int) := by omega
          have hn := hst.newBlk 47 #[.int .i64 pid, .string pt, .int .i64 ps, .int .i64 pd, .slice A3 pp.length c3]
          obtain ⟨w1, hw1⟩ : ∃ x, x = wr.alloc (.cells #[.int .i64 pid, .string pt, .int .i64 ps, .int .i64 pd, .slice A3 pp.length c3] 47) := ⟨_, rfl⟩
          rw [← hw1] at hn
          have Hw1 := Lib.hid hw1
          obtain ⟨y0, y1, y2, y3, y4⟩ := rl_cells hn
          clear hc hp htk hO hst hw1 hnew hr2
          have hns := hn.swap
          go_wp2
          rw [← Hw1.out]
          go_loopw [5, 11] (fun v j wr => v = .slice Ao O.length co ∧ j = .int .i64 0 ∧ wr = w1) (fun _ _ _ => 0)
          case atStart => exact ⟨rfl, rfl, rfl⟩
          case round =>
            obtain ⟨rfl, rfl, rfl⟩ := hrel
            by_cases hz : pp.length = 0
            · have hd : decide ((0 : Int) < (pp.length : Int)) = false := decide_eq_false (by omega)
              go_wp2
              go_roundw
              case rel => exact ⟨O, Ao, co, k + 1, by omega, rfl, by go_num, by rw [Hnew.out]; simp, hns.swap.drop⟩
              case measure => simp [intOf]; omega
            · have hd : decide ((0 : Int) < (pp.length : Int)) = true := decide_eq_true (by omega)
              go_wp2
              go_roundw
              case rel => exact ⟨O, Ao, co, k + 1, by omega, rfl, by go_num, by rw [Hnew.out]; simp, hns.swap.drop⟩
              case measure => simp [intOf]; omega
        · obtain rfl : k = R.length := by omega
          rw [List.take_length] at hO
          have hE : O = N.flatMap (fun _ : Nv => ([] : List ByteArray)) ++ R.flatMap (fun _ : Rv => ([] : List ByteArray)) := by rw [hO, HO1.out]
          have hol : O.length ≤ 1099511627776 := by rw [hO, List.length_append]; exact hl
          have hfr := hst.ol.reads
          have hT := Lib.hid (refSorted_any O.length O Ao co wr.heap.size wr (Nat.le_refl _) hfr.2.1 (Nat.le_refl _) hfr.2.2.1 hol)
          have HE := Lib.hid hE
          clear hO hE hfr hol
          go_wp2_with fail
          refine hT.out.mono ?_
          rintro e w8 ⟨v8, rfl, ho8, hb8⟩
          obtain ⟨A8, c8, rfl, -, -, -, -⟩ := ho8.form
          go_wp2
          go_ret
          rw [← HE.out]
          exact ⟨_, rfl, ho8.mono hsz, hbw.trans (hb8.mono hsz)⟩

end Go.Proofs.YthnaipgdjbaebaaGreat
