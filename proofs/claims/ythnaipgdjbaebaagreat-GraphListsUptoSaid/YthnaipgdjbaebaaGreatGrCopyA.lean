/- The document's copies of lists of properties. -/
import Derived.Test.YthnaipgdjbaebaaGreatGrObj
import Derived.Deep.RegionLaw
import Derived.Deep.RegionHeld3
import Derived.BigRegion
import Derived.Deep.Cut
namespace Go.Proofs.YthnaipgdjbaebaaGreat
open Go.RowKit
set_option linter.unusedVariables false

theorem row_info {P : Program} {t : TypeId} {s b : Nat} (h : (P.info? t).map (fun i => (i.zero.map (·.cells.size), i.size, i.bytes)) = some (some s, s, b)) :
    ∃ i z, P.info? t = some i ∧ i.zero = some z ∧ i.size = s ∧ i.bytes = b ∧ z.cells.size = s := by
  rcases hq : P.info? t with _ | i
  · rw [hq] at h; cases h
  · rw [hq] at h
    simp only [Option.map_some, Option.some.injEq, Prod.mk.injEq] at h
    rcases hz : i.zero with _ | z
    · rw [hz] at h; simp at h
    · rw [hz] at h
      simp only [Option.map_some, Option.some.injEq] at h
      exact ⟨i, z, rfl, hz, h.2.1, h.2.2, h.1⟩
theorem prop_info : (Tryz.prog.info? 45).map (fun i => (i.zero.map (·.cells.size), i.size, i.bytes)) = some (some 6, 6, 96) := by kernel_rfl
theorem node_info : (Tryz.prog.info? 40).map (fun i => (i.zero.map (·.cells.size), i.size, i.bytes)) = some (some 3, 3, 56) := by kernel_rfl
theorem rel_info : (Tryz.prog.info? 47).map (fun i => (i.zero.map (·.cells.size), i.size, i.bytes)) = some (some 5, 5, 64) := by kernel_rfl

/-- new properties, out of a call -/
def NewPs (L : List Pv) (w : World) (e : Ending) (w' : World) : Prop := ∃ v F, e = .returned v ∧ PsA v L w' F ∧ (∀ k, F k → w.heap.size ≤ k) ∧ Below w.heap.size w w'

section
variable {S : Fp} {l : List Ass} {w0 w w' : World}
theorem St.newPp [Stable (Sep l)] (h : St S l w0 w) {p : Pv} {x : Pl} (h1 : OL ivl w' w.heap.size 2 (.slice x.A p.val.ns.length x.c) p.val.ns) (h2 : OL svl w' w.heap.size 9 (.slice x.A' p.val.ts.length x.c') p.val.ts) (hb : Below w.heap.size w w') : St S (ppsA (p, x) :: l) w0 w' := by
  refine h.add (F := fun k => rfp (.slice x.A p.val.ns.length x.c) k ∨ rfp (.slice x.A' p.val.ts.length x.c') k) hb (Sep.two ⟨h1.mono (Nat.zero_le _), rfl⟩ ⟨h2.mono (Nat.zero_le _), rfl⟩ (rows_apart h1.2 h2.2 (by decide))) ?_
  rintro k (hk | hk)
  · exact (h1.2.lt k hk).1
  · exact (h2.2.lt k hk).1
end

set_option maxRecDepth 100000 in
set_option maxHeartbeats 4000000 in
theorem refCopyProps_any (A : Option Addr) (cap B : Nat) (L : List Pv) (w : World) (h : PropsR w B A L) (hB : B ≤ w.heap.size) (hl : L.length * 96 ≤ 140737488351232) :
    Calls Tryz.prog 36 #[.slice A L.length cap] w (NewPs L w) := by
  obtain ⟨i0, zz, hi, hz, hs, hby, hzs⟩ := row_info prop_info
  have H := Lib.hid h
  have hst : St Zf [RwA 45 6 (.slice (some ⟨w.heap.size, 0, none⟩) 0 0) 0 [], Sep []] w (w.alloc (.cells #[] 45)) := ((St.start Zf w).nilSep).newNilRw (e := 45) (size := 6) rfl (by omega)
  clear h
  go_enter Tryz.func36, Tryz.ntmps36
  go_wp2
  go_loopw [3, 4] (fun v i wr => ∃ (X : List (Pv × Pl)) (gg0 cap0 k : Nat), k ≤ L.length ∧ i = .int .i64 k ∧ v = .slice (some ⟨gg0, 0, none⟩) k cap0 ∧ k = X.length ∧ X.map (·.1) = L.take k ∧ (∀ q ∈ X, PropOk q.1) ∧ St Zf [RwA 45 6 (.slice (some ⟨gg0, 0, none⟩) k cap0) k (X.flatMap pcs), Sep (X.map ppsA)] w wr) (fun _ i _ => L.length - (intOf i).toNat)
  case atStart => exact ⟨[], _, _, 0, Nat.zero_le _, rfl, rfl, rfl, rfl, (fun q hq => by cases hq), hst⟩
  case round =>
    obtain ⟨X, gg0, cap0, k, hk, rfl, rfl, hkk, hX, hok, hst1⟩ := hrel
    clear hst
    by_cases hlt : k < L.length
    · obtain ⟨p, hp⟩ : ∃ p, L[k]? = some p := ⟨_, List.getElem?_eq_getElem hlt⟩
      have htk : L.take (k + 1) = L.take k ++ [p] := by
        rw [List.take_succ_eq_append_getElem hlt]
        rw [List.getElem?_eq_getElem hlt] at hp
        injection hp with hp
        rw [hp]
      have hbw := hst1.bel
      have hsz := hbw.size
      have hA1 := hst1.rw_
      obtain ⟨b, off, rfl, hbB, A2, c2, A3, c3, hc, hr1, hr2, hv, hks⟩ := (PropsR.below H.out (hbw.mono hB)) k _ hp
      obtain ⟨q0, q1, q2, q3, q4, q5⟩ := prop_cells hc
      have HC : Hid (∀ w', Below wr.heap.size wr w' → Calls Tryz.prog 61 #[vagg p.val A2 c2 A3 c3] w' fun e w'' => ∃ A c A' c', e = .returned (vagg p.val A c A' c') ∧ OL ivl w'' w'.heap.size 2 (.slice A p.val.ns.length c) p.val.ns ∧ OL svl w'' w'.heap.size 9 (.slice A' p.val.ts.length c') p.val.ts ∧ Below w'.heap.size w' w'') := Lib.hid fun w' hb =>
        refCopy_own p.val _ B w' ⟨A2, c2, A3, c3, rfl, hr1.below (hb.mono (by omega)), hr2.below (hb.mono (by omega)), hv⟩ (by have := hb.size; omega)
      have HQ : Hid (∀ w', Below wr.heap.size wr w' → CellsAt w' b (off + k * 6) (pcells p A2 c2 A3 c3)) := Lib.hid fun w' hb => hc.below hb (by omega)
      have Hv := Lib.hid hv
      have Hp := Lib.hid hp
      have Hx := Lib.hid hX
      have Hok := Lib.hid hok
      have Htk := Lib.hid htk
      have Hkk := Lib.hid hkk
      obtain ⟨key, ⟨vk, vn, vs, ns, ts⟩⟩ := p
      simp only [vagg] at q0 q1 q2 q3 q4 q5 HC hks
      have hb0 : Below wr.heap.size wr wr.drew := ⟨rfl, rfl, rfl, Nat.le_refl _, fun _ _ => rfl⟩
      have hb00 := Below.refl wr.heap.size wr
      have hi0 : (0 : Int) ≤ (k : Int) := by omega
      have hi1 : (k : Int) < (L.length : Int) := by omega
      have hby96 : (k + 1) * 96 ≤ 140737488355328 := by omega
      have H1 := Lib.hid hst1
      clear hc hr1 hr2 hv hp hX hok htk hA1 hst1 hkk
      go_wp2
      go_region_law (first
        | (refine step_append_new w1 (by rfl) _ _ _ (by rfl) 45 i0 zz 6 96 Tryz.underlying38 hi hz hs hby hzs (by omega) (by omega) _ k (X.flatMap pcs) (by rfl) H2.out.swap.rw_ #[.string key, .int .i64 vk, .int .i64 vn, .string vs, .slice A4 ns.length c4, .slice A5 ts.length c5] (by rfl) (pcs_one (⟨key, ⟨vk, vn, vs, ns, ts⟩⟩, ⟨A4, c4, A5, c5⟩)) (by rfl) hby96 ?_; intro gg cap2 w2 hown2 hgrow hat hltg; have H3 := Lib.hid ((H2.out.alloc _).swap.grewRw hown2 hgrow (hat.elim (fun e => .inl e.symm) fun e => .inr (congrArg some e)) (by simp)))
        | (go_simp; go_at_call 61; refine (HC.out _ (by first | exact hb0 | exact hb00)).mono ?_; rintro e w1 ⟨A4, c4, A5, c5, rfl, o1, o2, hb1⟩; have hbX := Lib.hid (show Below wr.heap.size wr w1 from ⟨hb1.os, hb1.tape, hb1.output, hb1.size, hb1.block⟩); have H2 := Lib.hid (H1.out.newPp (p := ⟨key, ⟨vk, vn, vs, ns, ts⟩⟩) (x := ⟨A4, c4, A5, c5⟩) o1 o2 hbX.out); obtain ⟨z0, z1, z2, z3, z4, z5⟩ := prop_cells (HQ.out w1 hbX.out); clear o1 o2 hb1))
      all_goals
        have H4 : St Zf [RwA 45 6 (.slice (some ⟨gg, 0, none⟩) (k + 1) cap2) (k + 1) ((X ++ [((⟨key, ⟨vk, vn, vs, ns, ts⟩⟩ : Pv), (⟨A4, c4, A5, c5⟩ : Pl))]).flatMap pcs), Sep ((X ++ [((⟨key, ⟨vk, vn, vs, ns, ts⟩⟩ : Pv), (⟨A4, c4, A5, c5⟩ : Pl))]).map ppsA)] w w2 := by
          have h := H3.out.back2.snocSep.swap
          rw [List.flatMap_append, List.map_append]
          simpa [pcs, pcells] using h
        go_wp2
        go_roundw
        case rel =>
          refine ⟨_, gg, cap2, k + 1, by omega, by go_num, rfl, by simp [Hkk.out], ?_, ?_, H4⟩
          · rw [List.map_append, Hx.out, Htk.out]; rfl
          · intro q hq
            rcases List.mem_append.1 hq with hq | hq
            · exact Hok.out q hq
            · rw [List.mem_singleton.1 hq]; exact ⟨Hv.out, hks⟩
        case measure => simp [intOf]; omega
    · obtain rfl : k = L.length := by omega
      rw [List.take_length] at hX
      clear hkk
      go_wp2
      go_ret
      have hf := St.fin (P := PsA (.slice (some ⟨gg0, 0, none⟩) L.length cap0) L) (hst1.pack (l' := [_, _]) |>.mapHead fun F h => ⟨X, ⟨hX, fun p hp => by
        rw [← hX] at hp
        obtain ⟨q, hq, rfl⟩ := List.mem_map.1 hp
        exact hok q hq⟩, h⟩)
      obtain ⟨F, f1, f2, f3⟩ := hf
      exact ⟨_, F, rfl, f1, f2, f3⟩

end Go.Proofs.YthnaipgdjbaebaaGreat

/- The document's copy of a graph: new memory, list by list. -/
namespace Go.Proofs.YthnaipgdjbaebaaGreat
open Go.RowKit
set_option linter.unusedVariables false
set_option linter.unusedSimpArgs false

/-- a graph whose lists are within reach -/
structure GBig (g : Gv) : Prop where
  n1 : g.nodes.length * 56 ≤ 140737488351232
  n2 : g.rels.length * 64 ≤ 140737488351232
  n3 : ∀ n ∈ g.nodes, n.labels.length * 16 ≤ 140737488351232 ∧ n.props.length * 96 ≤ 140737488351232
  n4 : ∀ r ∈ g.rels, r.props.length * 96 ≤ 140737488351232
/-- a new graph, out of a call -/
def NewG (g : Gv) (w : World) (e : Ending) (w' : World) : Prop := ∃ A c A' c' F, e = .returned (gagg g A c A' c') ∧ GA g A c A' c' w' F ∧ (∀ k, F k → w.heap.size ≤ k) ∧ Below w.heap.size w w'

section
variable {S : Fp} {l : List Ass} {w0 w w' : World}
theorem St.newPs [Stable (Sep l)] (h : St S l w0 w) {v : Value} {L : List Pv} {F : Fp} (hp : PsA v L w' F) (hF : ∀ k, F k → w.heap.size ≤ k) (hb : Below w.heap.size w w') : St S (PsA v L :: l) w0 w' := h.add hb hp hF
theorem gr_cells {g : Nat} {a c : Value} (h : St S (BlkA g 27 #[a, c] :: l) w0 w) : w.cell? ⟨g, 0, none⟩ = some a ∧ w.cell? ⟨g, 1, none⟩ = some c := by
  have hb := h.blk
  exact ⟨by rw [hb.cell 0]; rfl, by rw [hb.cell 1]; rfl⟩
theorem rl_cells {g : Nat} {a c d e f : Value} (h : St S (BlkA g 47 #[a, c, d, e, f] :: l) w0 w) : w.cell? ⟨g, 0, none⟩ = some a ∧ w.cell? ⟨g, 1, none⟩ = some c ∧ w.cell? ⟨g, 2, none⟩ = some d ∧ w.cell? ⟨g, 3, none⟩ = some e ∧ w.cell? ⟨g, 4, none⟩ = some f := by
  have hb := h.blk
  exact ⟨by rw [hb.cell 0]; rfl, by rw [hb.cell 1]; rfl, by rw [hb.cell 2]; rfl, by rw [hb.cell 3]; rfl, by rw [hb.cell 4]; rfl⟩
theorem nd_cells {g : Nat} {a c d : Value} (h : St S (BlkA g 40 #[a, c, d] :: l) w0 w) : w.cell? ⟨g, 0, none⟩ = some a ∧ w.cell? ⟨g, 1, none⟩ = some c ∧ w.cell? ⟨g, 2, none⟩ = some d := by
  have hb := h.blk
  exact ⟨by rw [hb.cell 0]; rfl, by rw [hb.cell 1]; rfl, by rw [hb.cell 2]; rfl⟩
end

set_option maxRecDepth 100000 in
set_option maxHeartbeats 1500000 in
theorem refGCopy_any (g : Gv) (A A' : Option Addr) (c c' B : Nat) (w : World) (h : GR w B g A A') (hg : GBig g) (hB : B ≤ w.heap.size) :
    Calls Tryz.prog 18 #[gagg g A c A' c'] w (NewG g w) := by
  obtain ⟨i0, zz, hi, hz, hs, hby, hzs⟩ := row_info node_info
  obtain ⟨i1, zz1, hi1, hz1, hs1, hby1, hzs1⟩ := row_info rel_info
  obtain ⟨j0, hj0, hy0, hy1, hy2⟩ := info_parts str_info
  obtain ⟨h1, h2, hl1, hl2⟩ := h
  obtain ⟨b1, b2, b3, b4⟩ := hg
  obtain ⟨N, R⟩ := g
  simp only at h1 h2 hl1 hl2 b1 b2 b3 b4
  simp only [gagg]
  have H1 := Lib.hid h1
  have H2 := Lib.hid h2
  have B3 := Lib.hid b3
  have B4 := Lib.hid b4
  have h0 := ((((((St.start Zf w).newBlk 27 #[.slice A N.length c, .slice A' R.length c']).newBlk 27 #[.slice none 0 0, .slice none 0 0])).nilSep).nilRw 40 3).newBlk 27 #[.slice none 0 0, .slice none 0 0]
  obtain ⟨wo, hwo⟩ : ∃ x, x = ((w.alloc (.cells #[.slice A N.length c, .slice A' R.length c'] 27)).alloc (.cells #[.slice none 0 0, .slice none 0 0] 27)).alloc (.cells #[.slice none 0 0, .slice none 0 0] 27) := ⟨_, rfl⟩
  rw [← hwo] at h0
  have e1 : (w.alloc (.cells #[.slice A N.length c, .slice A' R.length c'] 27)).heap.size = w.heap.size + 1 := by simp
  have e2 : ((w.alloc (.cells #[.slice A N.length c, .slice A' R.length c'] 27)).alloc (.cells #[.slice none 0 0, .slice none 0 0] 27)).heap.size = w.heap.size + 1 + 1 := by simp
  rw [e1, e2] at h0
  have Hwo := Lib.hid hwo
  clear h1 h2 b3 b4 hwo e1 e2
  go_enter Tryz.func18, Tryz.ntmps18
  go_wp2
  rw [← Hwo.out]
  go_loopw [4] (fun i wr => ∃ (X : List (Nv × Pl)) (A0 : Option Addr) (c0 k : Nat), k ≤ N.length ∧ i = .int .i64 k ∧ k = X.length ∧ X.map (·.1) = N.take k ∧ (∀ q ∈ X, NodeOk q.1) ∧
    St Zf [BlkA (w.heap.size + 1 + 1) 27 #[.slice A0 k c0, .slice none 0 0], RwA 40 3 (.slice A0 k c0) k (X.flatMap ncs), Sep (X.map ndA), BlkA (w.heap.size + 1) 27 #[.slice none 0 0, .slice none 0 0], BlkA w.heap.size 27 #[.slice A N.length c, .slice A' R.length c']] w wr) (fun i _ => N.length - (intOf i).toNat)
  case atStart => exact ⟨[], none, 0, 0, Nat.zero_le _, rfl, rfl, rfl, (fun q hq => by cases hq), h0⟩
  case round =>
    obtain ⟨X, A0, c0, k, hk, rfl, hkk, hX, hok, hst⟩ := hrel
    clear h0
    obtain ⟨x0, x1⟩ := gr_cells hst.bring4
    by_cases hlt : k < N.length
    · obtain ⟨p, hp⟩ : ∃ p, N[k]? = some p := ⟨_, List.getElem?_eq_getElem hlt⟩
      have htk : N.take (k + 1) = N.take k ++ [p] := by
        rw [List.take_succ_eq_append_getElem hlt]
        rw [List.getElem?_eq_getElem hlt] at hp
        injection hp with hp
        rw [hp]
      have hbw := hst.bel
      have hsz := hbw.size
      have hmem : p ∈ N := List.mem_of_getElem? hp
      obtain ⟨b, off, rfl, hbB, A2, c2, A3, c3, hc, hr1, hr2, ok1, ok2, ok3, ok4⟩ := (NodesR.below H1.out (hbw.mono hB)) k _ hp
      obtain ⟨q0, q1, q2⟩ := node_cells hc
      obtain ⟨pb1, pb2⟩ := B3.out p hmem
      have Hx := Lib.hid hX
      have Hok := Lib.hid hok
      have Htk := Lib.hid htk
      have Hkk := Lib.hid hkk
      have Hpk : Hid (NodeOk p) := Lib.hid ⟨ok1, ok2, ok3, ok4⟩
      obtain ⟨pid, pl, pp⟩ := p
      simp only at q0 q1 q2 hr1 hr2 ok2 ok3 pb1 pb2
      have hn := hst.newBlk 40 #[.int .i64 pid, .slice A2 pl.length c2, .slice A3 pp.length c3]
      obtain ⟨w1, hw1⟩ : ∃ x, x = wr.alloc (.cells #[.int .i64 pid, .slice A2 pl.length c2, .slice A3 pp.length c3] 40) := ⟨_, rfl⟩
      rw [← hw1] at hn
      have hbn : Below wr.heap.size wr w1 := by rw [hw1]; exact (Below.refl _ _).alloc (Nat.le_refl _) _
      have Hw1 := Lib.hid hw1
      have HC : Hid (∀ w', Below wr.heap.size wr w' → Calls Tryz.prog 36 #[.slice A3 pp.length c3] w' (NewPs pp w')) := Lib.hid fun w' hb => refCopyProps_any A3 c3 B pp w' (PropsR.below hr2 (hb.mono (by omega))) (by have := hb.size; omega) pb2
      have HL : Hid (∀ w', Below wr.heap.size wr w' → RL svl w' B A2 pl) := Lib.hid fun w' hb => hr1.below (hb.mono (by omega))
      have HF : Hid (∀ A4 c4 A5 c5 gg cap2 w5, St Zf [BlkA (w.heap.size + 1 + 1) 27 #[.slice (some ⟨gg, 0, none⟩) (k + 1) cap2, .slice none 0 0], RwA 40 3 (.slice (some ⟨gg, 0, none⟩) (k + 1) cap2) (k + 1) (X.flatMap ncs ++ [.int .i64 pid, .slice A4 pl.length c4, .slice A5 pp.length c5]), PsA (.slice A5 pp.length c5) pp, OlA svl 9 (.slice A4 pl.length c4) pl, BlkA wr.heap.size 40 #[.int .i64 pid, .slice A2 pl.length c2, .slice A3 pp.length c3], Sep (X.map ndA), BlkA (w.heap.size + 1) 27 #[.slice none 0 0, .slice none 0 0], BlkA w.heap.size 27 #[.slice (some ⟨b, off, none⟩) N.length c, .slice A' R.length c']] w w5 →
          St Zf [BlkA (w.heap.size + 1 + 1) 27 #[.slice (some ⟨gg, 0, none⟩) (k + 1) cap2, .slice none 0 0], RwA 40 3 (.slice (some ⟨gg, 0, none⟩) (k + 1) cap2) (k + 1) ((X ++ [((⟨pid, pl, pp⟩ : Nv), (⟨A4, c4, A5, c5⟩ : Pl))]).flatMap ncs), Sep ((X ++ [((⟨pid, pl, pp⟩ : Nv), (⟨A4, c4, A5, c5⟩ : Pl))]).map ndA), BlkA (w.heap.size + 1) 27 #[.slice none 0 0, .slice none 0 0], BlkA w.heap.size 27 #[.slice (some ⟨b, off, none⟩) N.length c, .slice A' R.length c']] w w5) := Lib.hid fun A4 c4 A5 c5 gg cap2 w5 h => by
        have k1 := St.pack (l' := [_, _]) h.bring3.bring3.swap
        have k2 := k1.bring3.drop.bring3.swap
        have k3 : St Zf [Sep (X.map ndA ++ [ndA (⟨pid, pl, pp⟩, ⟨A4, c4, A5, c5⟩)]), _, _, _, _] w w5 := St.snocSep k2
        have k4 := k3.bring2.bring2
        rw [List.flatMap_append, List.map_append]
        simpa [ncs, ncells] using k4
      have HN := Lib.hid hn
      have hi0 : (0 : Int) ≤ (k : Int) := by omega
      have hi1 : (k : Int) < (N.length : Int) := by omega
      have hby56 : (k + 1) * 56 ≤ 140737488355328 := by omega
      obtain ⟨y0, y1, y2⟩ := nd_cells hn
      obtain ⟨o0, o1⟩ := gr_cells hn.swap
      have hst' := hst.blk.lt
      clear hc hr1 hr2 hp hX hok htk hst hkk ok1 ok4 hw1 hmem hn
      have hn1 : wr.heap.size ≤ w1.heap.size := hbn.size
      have hne1 : wr.heap.size ≠ w.heap.size + 1 + 1 := by have := hst'; omega
      have hbL : Below wr.heap.size wr ((w1.alloc (.cells #[] 9)).drew) := by
        have h := hbn.alloc hn1 (.cells #[] 9)
        exact ⟨h.os, h.tape, h.output, h.size, h.block⟩
      have hby16 : (([] : List ByteArray).length + pl.length) * 16 ≤ 140737488355328 := by simp; omega
      have H2a := Lib.hid (HN.out.newNil svl 9 rfl).drew
      obtain ⟨y3, y4, y5⟩ := nd_cells H2a.out.swap
      obtain ⟨o3, o4⟩ := gr_cells H2a.out.bring2
      go_wp2
      rw [← Hw1.out]
      refine wp_region_held_drew (S := (fun w' => w'.cell? ⟨wr.heap.size, 0, none⟩ = some (.int .i64 pid) ∧ w'.cell? ⟨wr.heap.size, 1, none⟩ = some (.slice A2 pl.length c2) ∧ w'.cell? ⟨wr.heap.size, 2, none⟩ = some (.slice A3 pp.length c3))) (by kernel_rfl) (by (try dsimp only); go_keep) (fun hHeld => ?_)
      refine wpAnyH_take (i := 0) (v := ?_) rfl (by kernel_rfl) (by kernel_rfl) (by kernel_rfl) (fun _ _ _ h => h) (Or.inl ⟨by rfl, ?_⟩) (by assumption) ?_
      rotate_left
      · (intro w hSw; (try dsimp only at hSw); go_simp; try with_reducible rfl)
      try simp only [Act.put, List.setIfInBounds_toArray, List.set_cons_zero, List.set_cons_succ]
      refine wpAnyH_take (i := 2) (v := ?_) rfl (by kernel_rfl) (by kernel_rfl) (by kernel_rfl) (fun _ _ _ h => h) (Or.inl ⟨by rfl, ?_⟩) (by assumption) ?_
      rotate_left
      · (intro w hSw; (try dsimp only at hSw); go_simp; try with_reducible rfl)
      try simp only [Act.put, List.setIfInBounds_toArray, List.set_cons_zero, List.set_cons_succ]
      refine wpAnyH_take (i := 3) (v := ?_) rfl (by kernel_rfl) (by kernel_rfl) (by kernel_rfl) (fun _ _ _ h => h) (Or.inl ⟨by rfl, ?_⟩) (by assumption) ?_
      rotate_left
      · (intro w hSw; (try dsimp only at hSw); go_simp; try with_reducible rfl)
      try simp only [Act.put, List.setIfInBounds_toArray, List.set_cons_zero, List.set_cons_succ]
      refine wpAnyH_take (i := 5) (v := ?_) rfl (by kernel_rfl) (by kernel_rfl) (by kernel_rfl) (fun _ _ _ h => h) (Or.inl ⟨by rfl, ?_⟩) (by assumption) ?_
      rotate_left
      · (intro w hSw; (try dsimp only at hSw); go_simp; try with_reducible rfl)
      try simp only [Act.put, List.setIfInBounds_toArray, List.set_cons_zero, List.set_cons_succ]
      refine wpAnyH_take (i := 6) (v := ?_) rfl (by kernel_rfl) (by kernel_rfl) (by kernel_rfl) (fun _ _ _ h => h) (Or.inl ⟨by rfl, ?_⟩) (by assumption) ?_
      rotate_left
      · (intro w hSw; (try dsimp only at hSw); go_simp; try with_reducible rfl)
      try simp only [Act.put, List.setIfInBounds_toArray, List.set_cons_zero, List.set_cons_succ]
      refine wpAnyH_take (i := 8) (v := ?_) rfl (by kernel_rfl) (by kernel_rfl) (by kernel_rfl) (fun _ _ _ h => h) (Or.inl ⟨by rfl, ?_⟩) (by assumption) ?_
      rotate_left
      · (intro w hSw; (try dsimp only at hSw); go_simp; try with_reducible rfl)
      try simp only [Act.put, List.setIfInBounds_toArray, List.set_cons_zero, List.set_cons_succ]
      refine wpAnyH_take (i := 9) (v := ?_) rfl (by kernel_rfl) (by kernel_rfl) (by kernel_rfl) (fun _ _ _ h => h) (Or.inl ⟨by rfl, ?_⟩) (by assumption) ?_
      rotate_left
      · (intro w hSw; (try dsimp only at hSw); go_simp; try with_reducible rfl)
      try simp only [Act.put, List.setIfInBounds_toArray, List.set_cons_zero, List.set_cons_succ]
      refine wpAnyH_ready (rs := [1, 4]) (by kernel_rfl) (by simp) ?_
      refine AllReadyH.cons rfl (fun K hK => ?_) ?_
      · go_simp
        refine hK.out _ _ (by (try dsimp only); go_keep) (fun hHeld => ?_)
        clear hK K
        try simp only [Act.put, List.setIfInBounds_toArray, List.set_cons_zero, List.set_cons_succ]
        refine wpAnyH_ready (rs := [4]) (by kernel_rfl) (by simp) ?_
        refine AllReadyH.cons rfl (fun K hK => ?_) AllReadyH.nil
        go_simp
        refine hK.out _ _ (by (try dsimp only); go_keep) (fun hHeld => ?_)
        clear hK K
        try simp only [Act.put, List.setIfInBounds_toArray, List.set_cons_zero, List.set_cons_succ]
        refine wpAnyH_ready (rs := [7]) (by kernel_rfl) (by simp) ?_
        refine AllReadyH.cons rfl (fun K hK => ?_) AllReadyH.nil
        refine step_append_list _ (by rfl) _ _ _ (by rfl) 0 9 j0 _ 16 Tryz.underlying37 hj0 hy0 hy1 hy2 rfl (.slice (some ⟨w1.heap.size, 0, none⟩) 0 0) [] (by rfl) H2a.out.ol A2 c2 B pl pl.length rfl (by rfl) (HL.out _ hbL) hby16 (by omega) (Nat.zero_le _) ?_
        intro vL w2 hownL hgL hatL
        rw [List.nil_append] at hownL
        have H3 := Lib.hid (H2a.out.grewOl hownL hgL hatL (Nat.le_refl _))
        have hbw2 := Lib.hid (hbL.grown hgL (by simp; omega) (by intro k hk; simp [Value.ownBlock] at hk; omega))
        obtain ⟨A4, c4, rfl, -, -, -, -⟩ := hownL.form
        obtain ⟨y6, y7, y8⟩ := nd_cells H3.out.swap
        obtain ⟨o6, o7⟩ := gr_cells H3.out.bring2
        clear hownL hgL hatL
        refine hK.out _ _ (by (try dsimp only); go_keep) (fun hHeld => ?_)
        clear hK K
        try simp only [Act.put, List.setIfInBounds_toArray, List.set_cons_zero, List.set_cons_succ]
        refine wpAnyH_ready (rs := [10]) (by kernel_rfl) (by simp) ?_
        refine AllReadyH.cons rfl (fun K hK => ?_) AllReadyH.nil
        go_simp
        go_at_call 36
        refine (HC.out _ hbw2.out).mono ?_
        rintro e w3 ⟨v3, F3, rfl, hps, hF3, hb3⟩
        have H5 := Lib.hid (H3.out.newPs hps hF3 hb3)
        obtain ⟨A5, c5, rfl, -⟩ := hps.reads
        obtain ⟨y9, y10, y11⟩ := nd_cells H5.out.bring2
        obtain ⟨o9, o10⟩ := gr_cells H5.out.bring3
        obtain ⟨o14, o15⟩ := gr_cells (H5.out.alloc (.cells #[.int .i64 pid, .slice A4 pl.length c4, .slice A5 pp.length c5] 40)).bring3
        clear hps hF3 hb3
        refine hK.out _ _ (by (try dsimp only); go_keep) (fun hHeld => ?_)
        clear hK K
        try simp only [Act.put, List.setIfInBounds_toArray, List.set_cons_zero, List.set_cons_succ]
        refine wpAnyH_take (i := 11) (v := ?_) rfl (by kernel_rfl) (by kernel_rfl) (by kernel_rfl) (fun _ _ _ h => h) (Or.inl ⟨by rfl, ?_⟩) (by assumption) ?_
        rotate_left
        · (intro w hSw; (try dsimp only at hSw); go_simp; try with_reducible rfl)
        try simp only [Act.put, List.setIfInBounds_toArray, List.set_cons_zero, List.set_cons_succ]
        refine wpAnyH_ready (rs := [12]) (by kernel_rfl) (by simp) ?_
        refine AllReadyH.cons rfl (fun K hK => ?_) AllReadyH.nil
        go_simp
        refine hK.out _ _ (by (try dsimp only); go_keep) (fun hHeld => ?_)
        clear hK K
        try simp only [Act.put, List.setIfInBounds_toArray, List.set_cons_zero, List.set_cons_succ]
        refine wpAnyH_ready (rs := [13]) (by kernel_rfl) (by simp) ?_
        refine AllReadyH.cons rfl (fun K hK => ?_) AllReadyH.nil
        refine step_append_new w3 (by rfl) _ _ _ (by rfl) 40 i0 zz 3 56 Tryz.underlying24 hi hz hs hby hzs (by omega) (by omega) _ k (X.flatMap ncs) (by rfl) H5.out.bring4.rw_ #[.int .i64 pid, .slice A4 pl.length c4, .slice A5 pp.length c5] (by rfl) (ncs_one (⟨pid, pl, pp⟩, ⟨A4, c4, A5, c5⟩)) (by rfl) hby56 ?_
        intro gg cap2 w4 hown4 hgrow4 hat4 hltg4
        have H6 := Lib.hid ((H5.out.alloc (.cells #[.int .i64 pid, .slice A4 pl.length c4, .slice A5 pp.length c5] 40)).bring4.grewRw hown4 hgrow4 (hat4.elim (fun e => .inl e.symm) fun e => .inr (congrArg some e)) (by simp))
        obtain ⟨o12, o13⟩ := gr_cells H6.out.bring4
        have f12 := H6.out.bring4.blk.frozen 0
        obtain ⟨y12, y13, y14⟩ := nd_cells H6.out.bring3
        have H7 := Lib.hid (H6.out.bring4.setBlk 0 (.slice (some ⟨gg, 0, none⟩) (k + 1) cap2))
        obtain ⟨y15, y16, y17⟩ := nd_cells H7.out.bring4
        clear hown4 hgrow4 hat4
        refine hK.out _ _ (by (try dsimp only); go_keep) (fun hHeld => ?_)
        clear hK K
        try simp only [Act.put, List.setIfInBounds_toArray, List.set_cons_zero, List.set_cons_succ]
        refine wpAnyH_take (i := 14) (v := ?_) rfl (by kernel_rfl) (by kernel_rfl) (by kernel_rfl) (fun _ _ _ h => h) (Or.inl ⟨by rfl, ?_⟩) (by assumption) ?_
        rotate_left
        · (intro w hSw; (try dsimp only at hSw); go_simp; try with_reducible rfl)
        try simp only [Act.put, List.setIfInBounds_toArray, List.set_cons_zero, List.set_cons_succ]
        refine wpAnyH_ready (rs := [15]) (by kernel_rfl) (by simp) ?_
        refine AllReadyH.cons rfl (fun K hK => ?_) AllReadyH.nil
        go_simp
        refine hK.out _ _ (by (try dsimp only); go_keep) (fun hHeld => ?_)
        clear hK K
        try simp only [Act.put, List.setIfInBounds_toArray, List.set_cons_zero, List.set_cons_succ]
        refine wpAnyH_done (by kernel_rfl) ?_ _
        have hfin := HF.out A4 c4 A5 c5 gg cap2 _ H7.out
        clear H7 H6 H5 H3
        go_wp2
        go_roundw
        case rel => exact ⟨X ++ [((⟨pid, pl, pp⟩ : Nv), (⟨A4, c4, A5, c5⟩ : Pl))], some ⟨gg, 0, none⟩, cap2, k + 1, by omega, by go_num, by simp [Hkk.out], by rw [List.map_append, Hx.out, Htk.out]; rfl, fun q hq => (List.mem_append.1 hq).elim (Hok.out q) fun h => by rw [List.mem_singleton.1 h]; exact Hpk.out, hfin⟩
        case measure => simp [intOf]; omega
      refine AllReadyH.cons rfl (fun K hK => ?_) AllReadyH.nil
      go_simp
      refine hK.out _ _ (by (try dsimp only); go_keep) (fun hHeld => ?_)
      clear hK K
      try simp only [Act.put, List.setIfInBounds_toArray, List.set_cons_zero, List.set_cons_succ]
      refine wpAnyH_ready (rs := [1, 7]) (by kernel_rfl) (by simp) ?_
      refine AllReadyH.cons rfl (fun K hK => ?_) ?_
      · go_simp
        refine hK.out _ _ (by (try dsimp only); go_keep) (fun hHeld => ?_)
        clear hK K
        try simp only [Act.put, List.setIfInBounds_toArray, List.set_cons_zero, List.set_cons_succ]
        refine wpAnyH_ready (rs := [7]) (by kernel_rfl) (by simp) ?_
        refine AllReadyH.cons rfl (fun K hK => ?_) AllReadyH.nil
        refine step_append_list _ (by rfl) _ _ _ (by rfl) 0 9 j0 _ 16 Tryz.underlying37 hj0 hy0 hy1 hy2 rfl (.slice (some ⟨w1.heap.size, 0, none⟩) 0 0) [] (by rfl) H2a.out.ol A2 c2 B pl pl.length rfl (by rfl) (HL.out _ hbL) hby16 (by omega) (Nat.zero_le _) ?_
        intro vL w2 hownL hgL hatL
        rw [List.nil_append] at hownL
        have H3 := Lib.hid (H2a.out.grewOl hownL hgL hatL (Nat.le_refl _))
        have hbw2 := Lib.hid (hbL.grown hgL (by simp; omega) (by intro k hk; simp [Value.ownBlock] at hk; omega))
        obtain ⟨A4, c4, rfl, -, -, -, -⟩ := hownL.form
        obtain ⟨y6, y7, y8⟩ := nd_cells H3.out.swap
        obtain ⟨o6, o7⟩ := gr_cells H3.out.bring2
        clear hownL hgL hatL
        refine hK.out _ _ (by (try dsimp only); go_keep) (fun hHeld => ?_)
        clear hK K
        try simp only [Act.put, List.setIfInBounds_toArray, List.set_cons_zero, List.set_cons_succ]
        refine wpAnyH_ready (rs := [10]) (by kernel_rfl) (by simp) ?_
        refine AllReadyH.cons rfl (fun K hK => ?_) AllReadyH.nil
        go_simp
        go_at_call 36
        refine (HC.out _ hbw2.out).mono ?_
        rintro e w3 ⟨v3, F3, rfl, hps, hF3, hb3⟩
        have H5 := Lib.hid (H3.out.newPs hps hF3 hb3)
        obtain ⟨A5, c5, rfl, -⟩ := hps.reads
        obtain ⟨y9, y10, y11⟩ := nd_cells H5.out.bring2
        obtain ⟨o9, o10⟩ := gr_cells H5.out.bring3
        obtain ⟨o14, o15⟩ := gr_cells (H5.out.alloc (.cells #[.int .i64 pid, .slice A4 pl.length c4, .slice A5 pp.length c5] 40)).bring3
        clear hps hF3 hb3
        refine hK.out _ _ (by (try dsimp only); go_keep) (fun hHeld => ?_)
        clear hK K
        try simp only [Act.put, List.setIfInBounds_toArray, List.set_cons_zero, List.set_cons_succ]
        refine wpAnyH_take (i := 11) (v := ?_) rfl (by kernel_rfl) (by kernel_rfl) (by kernel_rfl) (fun _ _ _ h => h) (Or.inl ⟨by rfl, ?_⟩) (by assumption) ?_
        rotate_left
        · (intro w hSw; (try dsimp only at hSw); go_simp; try with_reducible rfl)
        try simp only [Act.put, List.setIfInBounds_toArray, List.set_cons_zero, List.set_cons_succ]
        refine wpAnyH_ready (rs := [12]) (by kernel_rfl) (by simp) ?_
        refine AllReadyH.cons rfl (fun K hK => ?_) AllReadyH.nil
        go_simp
        refine hK.out _ _ (by (try dsimp only); go_keep) (fun hHeld => ?_)
        clear hK K
        try simp only [Act.put, List.setIfInBounds_toArray, List.set_cons_zero, List.set_cons_succ]
        refine wpAnyH_ready (rs := [13]) (by kernel_rfl) (by simp) ?_
        refine AllReadyH.cons rfl (fun K hK => ?_) AllReadyH.nil
        refine step_append_new w3 (by rfl) _ _ _ (by rfl) 40 i0 zz 3 56 Tryz.underlying24 hi hz hs hby hzs (by omega) (by omega) _ k (X.flatMap ncs) (by rfl) H5.out.bring4.rw_ #[.int .i64 pid, .slice A4 pl.length c4, .slice A5 pp.length c5] (by rfl) (ncs_one (⟨pid, pl, pp⟩, ⟨A4, c4, A5, c5⟩)) (by rfl) hby56 ?_
        intro gg cap2 w4 hown4 hgrow4 hat4 hltg4
        have H6 := Lib.hid ((H5.out.alloc (.cells #[.int .i64 pid, .slice A4 pl.length c4, .slice A5 pp.length c5] 40)).bring4.grewRw hown4 hgrow4 (hat4.elim (fun e => .inl e.symm) fun e => .inr (congrArg some e)) (by simp))
        obtain ⟨o12, o13⟩ := gr_cells H6.out.bring4
        have f12 := H6.out.bring4.blk.frozen 0
        obtain ⟨y12, y13, y14⟩ := nd_cells H6.out.bring3
        have H7 := Lib.hid (H6.out.bring4.setBlk 0 (.slice (some ⟨gg, 0, none⟩) (k + 1) cap2))
        obtain ⟨y15, y16, y17⟩ := nd_cells H7.out.bring4
        clear hown4 hgrow4 hat4
        refine hK.out _ _ (by (try dsimp only); go_keep) (fun hHeld => ?_)
        clear hK K
        try simp only [Act.put, List.setIfInBounds_toArray, List.set_cons_zero, List.set_cons_succ]
        refine wpAnyH_take (i := 14) (v := ?_) rfl (by kernel_rfl) (by kernel_rfl) (by kernel_rfl) (fun _ _ _ h => h) (Or.inl ⟨by rfl, ?_⟩) (by assumption) ?_
        rotate_left
        · (intro w hSw; (try dsimp only at hSw); go_simp; try with_reducible rfl)
        try simp only [Act.put, List.setIfInBounds_toArray, List.set_cons_zero, List.set_cons_succ]
        refine wpAnyH_ready (rs := [15]) (by kernel_rfl) (by simp) ?_
        refine AllReadyH.cons rfl (fun K hK => ?_) AllReadyH.nil
        go_simp
        refine hK.out _ _ (by (try dsimp only); go_keep) (fun hHeld => ?_)
        clear hK K
        try simp only [Act.put, List.setIfInBounds_toArray, List.set_cons_zero, List.set_cons_succ]
        refine wpAnyH_done (by kernel_rfl) ?_ _
        have hfin := HF.out A4 c4 A5 c5 gg cap2 _ H7.out
        clear H7 H6 H5 H3
        go_wp2
        go_roundw
        case rel => exact ⟨X ++ [((⟨pid, pl, pp⟩ : Nv), (⟨A4, c4, A5, c5⟩ : Pl))], some ⟨gg, 0, none⟩, cap2, k + 1, by omega, by go_num, by simp [Hkk.out], by rw [List.map_append, Hx.out, Htk.out]; rfl, fun q hq => (List.mem_append.1 hq).elim (Hok.out q) fun h => by rw [List.mem_singleton.1 h]; exact Hpk.out, hfin⟩
        case measure => simp [intOf]; omega
      refine AllReadyH.cons rfl (fun K hK => ?_) AllReadyH.nil
      refine step_append_list _ (by rfl) _ _ _ (by rfl) 0 9 j0 _ 16 Tryz.underlying37 hj0 hy0 hy1 hy2 rfl (.slice (some ⟨w1.heap.size, 0, none⟩) 0 0) [] (by rfl) H2a.out.ol A2 c2 B pl pl.length rfl (by rfl) (HL.out _ hbL) hby16 (by omega) (Nat.zero_le _) ?_
      intro vL w2 hownL hgL hatL
      rw [List.nil_append] at hownL
      have H3 := Lib.hid (H2a.out.grewOl hownL hgL hatL (Nat.le_refl _))
      have hbw2 := Lib.hid (hbL.grown hgL (by simp; omega) (by intro k hk; simp [Value.ownBlock] at hk; omega))
      obtain ⟨A4, c4, rfl, -, -, -, -⟩ := hownL.form
      obtain ⟨y6, y7, y8⟩ := nd_cells H3.out.swap
      obtain ⟨o6, o7⟩ := gr_cells H3.out.bring2
      clear hownL hgL hatL
      refine hK.out _ _ (by (try dsimp only); go_keep) (fun hHeld => ?_)
      clear hK K
      try simp only [Act.put, List.setIfInBounds_toArray, List.set_cons_zero, List.set_cons_succ]
      refine wpAnyH_ready (rs := [1, 10]) (by kernel_rfl) (by simp) ?_
      refine AllReadyH.cons rfl (fun K hK => ?_) ?_
      · go_simp
        refine hK.out _ _ (by (try dsimp only); go_keep) (fun hHeld => ?_)
        clear hK K
        try simp only [Act.put, List.setIfInBounds_toArray, List.set_cons_zero, List.set_cons_succ]
        refine wpAnyH_ready (rs := [10]) (by kernel_rfl) (by simp) ?_
        refine AllReadyH.cons rfl (fun K hK => ?_) AllReadyH.nil
        go_simp
        go_at_call 36
        refine (HC.out _ hbw2.out).mono ?_
        rintro e w3 ⟨v3, F3, rfl, hps, hF3, hb3⟩
        have H5 := Lib.hid (H3.out.newPs hps hF3 hb3)
        obtain ⟨A5, c5, rfl, -⟩ := hps.reads
        obtain ⟨y9, y10, y11⟩ := nd_cells H5.out.bring2
        obtain ⟨o9, o10⟩ := gr_cells H5.out.bring3
        obtain ⟨o14, o15⟩ := gr_cells (H5.out.alloc (.cells #[.int .i64 pid, .slice A4 pl.length c4, .slice A5 pp.length c5] 40)).bring3
        clear hps hF3 hb3
        refine hK.out _ _ (by (try dsimp only); go_keep) (fun hHeld => ?_)
        clear hK K
        try simp only [Act.put, List.setIfInBounds_toArray, List.set_cons_zero, List.set_cons_succ]
        refine wpAnyH_take (i := 11) (v := ?_) rfl (by kernel_rfl) (by kernel_rfl) (by kernel_rfl) (fun _ _ _ h => h) (Or.inl ⟨by rfl, ?_⟩) (by assumption) ?_
        rotate_left
        · (intro w hSw; (try dsimp only at hSw); go_simp; try with_reducible rfl)
        try simp only [Act.put, List.setIfInBounds_toArray, List.set_cons_zero, List.set_cons_succ]
        refine wpAnyH_ready (rs := [12]) (by kernel_rfl) (by simp) ?_
        refine AllReadyH.cons rfl (fun K hK => ?_) AllReadyH.nil
        go_simp
        refine hK.out _ _ (by (try dsimp only); go_keep) (fun hHeld => ?_)
        clear hK K
        try simp only [Act.put, List.setIfInBounds_toArray, List.set_cons_zero, List.set_cons_succ]
        refine wpAnyH_ready (rs := [13]) (by kernel_rfl) (by simp) ?_
        refine AllReadyH.cons rfl (fun K hK => ?_) AllReadyH.nil
        refine step_append_new w3 (by rfl) _ _ _ (by rfl) 40 i0 zz 3 56 Tryz.underlying24 hi hz hs hby hzs (by omega) (by omega) _ k (X.flatMap ncs) (by rfl) H5.out.bring4.rw_ #[.int .i64 pid, .slice A4 pl.length c4, .slice A5 pp.length c5] (by rfl) (ncs_one (⟨pid, pl, pp⟩, ⟨A4, c4, A5, c5⟩)) (by rfl) hby56 ?_
        intro gg cap2 w4 hown4 hgrow4 hat4 hltg4
        have H6 := Lib.hid ((H5.out.alloc (.cells #[.int .i64 pid, .slice A4 pl.length c4, .slice A5 pp.length c5] 40)).bring4.grewRw hown4 hgrow4 (hat4.elim (fun e => .inl e.symm) fun e => .inr (congrArg some e)) (by simp))
        obtain ⟨o12, o13⟩ := gr_cells H6.out.bring4
        have f12 := H6.out.bring4.blk.frozen 0
        obtain ⟨y12, y13, y14⟩ := nd_cells H6.out.bring3
        have H7 := Lib.hid (H6.out.bring4.setBlk 0 (.slice (some ⟨gg, 0, none⟩) (k + 1) cap2))
        obtain ⟨y15, y16, y17⟩ := nd_cells H7.out.bring4
        clear hown4 hgrow4 hat4
        refine hK.out _ _ (by (try dsimp only); go_keep) (fun hHeld => ?_)
        clear hK K
        try simp only [Act.put, List.setIfInBounds_toArray, List.set_cons_zero, List.set_cons_succ]
        refine wpAnyH_take (i := 14) (v := ?_) rfl (by kernel_rfl) (by kernel_rfl) (by kernel_rfl) (fun _ _ _ h => h) (Or.inl ⟨by rfl, ?_⟩) (by assumption) ?_
        rotate_left
        · (intro w hSw; (try dsimp only at hSw); go_simp; try with_reducible rfl)
        try simp only [Act.put, List.setIfInBounds_toArray, List.set_cons_zero, List.set_cons_succ]
        refine wpAnyH_ready (rs := [15]) (by kernel_rfl) (by simp) ?_
        refine AllReadyH.cons rfl (fun K hK => ?_) AllReadyH.nil
        go_simp
        refine hK.out _ _ (by (try dsimp only); go_keep) (fun hHeld => ?_)
        clear hK K
        try simp only [Act.put, List.setIfInBounds_toArray, List.set_cons_zero, List.set_cons_succ]
        refine wpAnyH_done (by kernel_rfl) ?_ _
        have hfin := HF.out A4 c4 A5 c5 gg cap2 _ H7.out
        clear H7 H6 H5 H3
        go_wp2
        go_roundw
        case rel => exact ⟨X ++ [((⟨pid, pl, pp⟩ : Nv), (⟨A4, c4, A5, c5⟩ : Pl))], some ⟨gg, 0, none⟩, cap2, k + 1, by omega, by go_num, by simp [Hkk.out], by rw [List.map_append, Hx.out, Htk.out]; rfl, fun q hq => (List.mem_append.1 hq).elim (Hok.out q) fun h => by rw [List.mem_singleton.1 h]; exact Hpk.out, hfin⟩
        case measure => simp [intOf]; omega
      refine AllReadyH.cons rfl (fun K hK => ?_) AllReadyH.nil
      go_simp
      go_at_call 36
      refine (HC.out _ hbw2.out).mono ?_
      rintro e w3 ⟨v3, F3, rfl, hps, hF3, hb3⟩
      have H5 := Lib.hid (H3.out.newPs hps hF3 hb3)
      obtain ⟨A5, c5, rfl, -⟩ := hps.reads
      obtain ⟨y9, y10, y11⟩ := nd_cells H5.out.bring2
      obtain ⟨o9, o10⟩ := gr_cells H5.out.bring3
      obtain ⟨o14, o15⟩ := gr_cells (H5.out.alloc (.cells #[.int .i64 pid, .slice A4 pl.length c4, .slice A5 pp.length c5] 40)).bring3
      clear hps hF3 hb3
      refine hK.out _ _ (by (try dsimp only); go_keep) (fun hHeld => ?_)
      clear hK K
      try simp only [Act.put, List.setIfInBounds_toArray, List.set_cons_zero, List.set_cons_succ]
      refine wpAnyH_take (i := 11) (v := ?_) rfl (by kernel_rfl) (by kernel_rfl) (by kernel_rfl) (fun _ _ _ h => h) (Or.inl ⟨by rfl, ?_⟩) (by assumption) ?_
      rotate_left
      · (intro w hSw; (try dsimp only at hSw); go_simp; try with_reducible rfl)
      try simp only [Act.put, List.setIfInBounds_toArray, List.set_cons_zero, List.set_cons_succ]
      refine wpAnyH_ready (rs := [1, 12]) (by kernel_rfl) (by simp) ?_
      refine AllReadyH.cons rfl (fun K hK => ?_) ?_
      · go_simp
        refine hK.out _ _ (by (try dsimp only); go_keep) (fun hHeld => ?_)
        clear hK K
        try simp only [Act.put, List.setIfInBounds_toArray, List.set_cons_zero, List.set_cons_succ]
        refine wpAnyH_ready (rs := [12]) (by kernel_rfl) (by simp) ?_
        refine AllReadyH.cons rfl (fun K hK => ?_) AllReadyH.nil
        go_simp
        refine hK.out _ _ (by (try dsimp only); go_keep) (fun hHeld => ?_)
        clear hK K
        try simp only [Act.put, List.setIfInBounds_toArray, List.set_cons_zero, List.set_cons_succ]
        refine wpAnyH_ready (rs := [13]) (by kernel_rfl) (by simp) ?_
        refine AllReadyH.cons rfl (fun K hK => ?_) AllReadyH.nil
        refine step_append_new w3 (by rfl) _ _ _ (by rfl) 40 i0 zz 3 56 Tryz.underlying24 hi hz hs hby hzs (by omega) (by omega) _ k (X.flatMap ncs) (by rfl) H5.out.bring4.rw_ #[.int .i64 pid, .slice A4 pl.length c4, .slice A5 pp.length c5] (by rfl) (ncs_one (⟨pid, pl, pp⟩, ⟨A4, c4, A5, c5⟩)) (by rfl) hby56 ?_
        intro gg cap2 w4 hown4 hgrow4 hat4 hltg4
        have H6 := Lib.hid ((H5.out.alloc (.cells #[.int .i64 pid, .slice A4 pl.length c4, .slice A5 pp.length c5] 40)).bring4.grewRw hown4 hgrow4 (hat4.elim (fun e => .inl e.symm) fun e => .inr (congrArg some e)) (by simp))
        obtain ⟨o12, o13⟩ := gr_cells H6.out.bring4
        have f12 := H6.out.bring4.blk.frozen 0
        obtain ⟨y12, y13, y14⟩ := nd_cells H6.out.bring3
        have H7 := Lib.hid (H6.out.bring4.setBlk 0 (.slice (some ⟨gg, 0, none⟩) (k + 1) cap2))
        obtain ⟨y15, y16, y17⟩ := nd_cells H7.out.bring4
        clear hown4 hgrow4 hat4
        refine hK.out _ _ (by (try dsimp only); go_keep) (fun hHeld => ?_)
        clear hK K
        try simp only [Act.put, List.setIfInBounds_toArray, List.set_cons_zero, List.set_cons_succ]
        refine wpAnyH_take (i := 14) (v := ?_) rfl (by kernel_rfl) (by kernel_rfl) (by kernel_rfl) (fun _ _ _ h => h) (Or.inl ⟨by rfl, ?_⟩) (by assumption) ?_
        rotate_left
        · (intro w hSw; (try dsimp only at hSw); go_simp; try with_reducible rfl)
        try simp only [Act.put, List.setIfInBounds_toArray, List.set_cons_zero, List.set_cons_succ]
        refine wpAnyH_ready (rs := [15]) (by kernel_rfl) (by simp) ?_
        refine AllReadyH.cons rfl (fun K hK => ?_) AllReadyH.nil
        go_simp
        refine hK.out _ _ (by (try dsimp only); go_keep) (fun hHeld => ?_)
        clear hK K
        try simp only [Act.put, List.setIfInBounds_toArray, List.set_cons_zero, List.set_cons_succ]
        refine wpAnyH_done (by kernel_rfl) ?_ _
        have hfin := HF.out A4 c4 A5 c5 gg cap2 _ H7.out
        clear H7 H6 H5 H3
        go_wp2
        go_roundw
        case rel => exact ⟨X ++ [((⟨pid, pl, pp⟩ : Nv), (⟨A4, c4, A5, c5⟩ : Pl))], some ⟨gg, 0, none⟩, cap2, k + 1, by omega, by go_num, by simp [Hkk.out], by rw [List.map_append, Hx.out, Htk.out]; rfl, fun q hq => (List.mem_append.1 hq).elim (Hok.out q) fun h => by rw [List.mem_singleton.1 h]; exact Hpk.out, hfin⟩
        case measure => simp [intOf]; omega
      refine AllReadyH.cons rfl (fun K hK => ?_) AllReadyH.nil
      go_simp
      refine hK.out _ _ (by (try dsimp only); go_keep) (fun hHeld => ?_)
      clear hK K
      try simp only [Act.put, List.setIfInBounds_toArray, List.set_cons_zero, List.set_cons_succ]
      refine wpAnyH_ready (rs := [1]) (by kernel_rfl) (by simp) ?_
      refine AllReadyH.cons rfl (fun K hK => ?_) AllReadyH.nil
      go_simp
      refine hK.out _ _ (by (try dsimp only); go_keep) (fun hHeld => ?_)
      clear hK K
      try simp only [Act.put, List.setIfInBounds_toArray, List.set_cons_zero, List.set_cons_succ]
      refine wpAnyH_ready (rs := [13]) (by kernel_rfl) (by simp) ?_
      refine AllReadyH.cons rfl (fun K hK => ?_) AllReadyH.nil
      refine step_append_new w3 (by rfl) _ _ _ (by rfl) 40 i0 zz 3 56 Tryz.underlying24 hi hz hs hby hzs (by omega) (by omega) _ k (X.flatMap ncs) (by rfl) H5.out.bring4.rw_ #[.int .i64 pid, .slice A4 pl.length c4, .slice A5 pp.length c5] (by rfl) (ncs_one (⟨pid, pl, pp⟩, ⟨A4, c4, A5, c5⟩)) (by rfl) hby56 ?_
      intro gg cap2 w4 hown4 hgrow4 hat4 hltg4
      have H6 := Lib.hid ((H5.out.alloc (.cells #[.int .i64 pid, .slice A4 pl.length c4, .slice A5 pp.length c5] 40)).bring4.grewRw hown4 hgrow4 (hat4.elim (fun e => .inl e.symm) fun e => .inr (congrArg some e)) (by simp))
      obtain ⟨o12, o13⟩ := gr_cells H6.out.bring4
      have f12 := H6.out.bring4.blk.frozen 0
      obtain ⟨y12, y13, y14⟩ := nd_cells H6.out.bring3
      have H7 := Lib.hid (H6.out.bring4.setBlk 0 (.slice (some ⟨gg, 0, none⟩) (k + 1) cap2))
      obtain ⟨y15, y16, y17⟩ := nd_cells H7.out.bring4
      clear hown4 hgrow4 hat4
      refine hK.out _ _ (by (try dsimp only); go_keep) (fun hHeld => ?_)
      clear hK K
      try simp only [Act.put, List.setIfInBounds_toArray, List.set_cons_zero, List.set_cons_succ]
      refine wpAnyH_take (i := 14) (v := ?_) rfl (by kernel_rfl) (by kernel_rfl) (by kernel_rfl) (fun _ _ _ h => h) (Or.inl ⟨by rfl, ?_⟩) (by assumption) ?_
      rotate_left
      · (intro w hSw; (try dsimp only at hSw); go_simp; try with_reducible rfl)
      try simp only [Act.put, List.setIfInBounds_toArray, List.set_cons_zero, List.set_cons_succ]
      refine wpAnyH_ready (rs := [15]) (by kernel_rfl) (by simp) ?_
      refine AllReadyH.cons rfl (fun K hK => ?_) AllReadyH.nil
      go_simp
      refine hK.out _ _ (by (try dsimp only); go_keep) (fun hHeld => ?_)
      clear hK K
      try simp only [Act.put, List.setIfInBounds_toArray, List.set_cons_zero, List.set_cons_succ]
      refine wpAnyH_done (by kernel_rfl) ?_ _
      have hfin := HF.out A4 c4 A5 c5 gg cap2 _ H7.out
      clear H7 H6 H5 H3
      go_wp2
      go_roundw
      case rel => exact ⟨X ++ [((⟨pid, pl, pp⟩ : Nv), (⟨A4, c4, A5, c5⟩ : Pl))], some ⟨gg, 0, none⟩, cap2, k + 1, by omega, by go_num, by simp [Hkk.out], by rw [List.map_append, Hx.out, Htk.out]; rfl, fun q hq => (List.mem_append.1 hq).elim (Hok.out q) fun h => by rw [List.mem_singleton.1 h]; exact Hpk.out, hfin⟩
      case measure => simp [intOf]; omega
    · obtain rfl : k = N.length := by omega
      rw [List.take_length] at hX
      have hns : St Zf [BlkA (w.heap.size + 1 + 1) 27 #[.slice A0 N.length c0, .slice none 0 0], RwA 47 5 (.slice none 0 0) 0 [], Sep [], NsA (.slice A0 N.length c0) N, BlkA (w.heap.size + 1) 27 #[.slice none 0 0, .slice none 0 0], BlkA w.heap.size 27 #[.slice A N.length c, .slice A' R.length c']] w wr := by
        have k1 := St.pack (l' := [_, _]) hst.bring2.bring2
        have k2 : St Zf (NsA (.slice A0 N.length c0) N :: _) w wr := k1.mapHead fun F h => ⟨X, ⟨hX, fun p hp => by
          rw [← hX] at hp
          obtain ⟨q, hq, rfl⟩ := List.mem_map.1 hp
          exact hok q hq⟩, h⟩
        exact (k2.swap.nilSep.nilRw _ _).bring2
      obtain ⟨wm, hwm⟩ : ∃ x : World, x = wr := ⟨_, rfl⟩
      rw [← hwm]
      rw [← hwm] at hns x0 x1
      clear hst hX hok hkk hwm
      obtain ⟨o0, o1⟩ := gr_cells hns
      go_wp2
      clear x0 x1 o0 o1
      go_loopw [6] (fun i wr => ∃ (Y : List (Rv × Pl)) (A1 : Option Addr) (c1 k : Nat), k ≤ R.length ∧ i = .int .i64 k ∧ k = Y.length ∧ Y.map (·.1) = R.take k ∧ (∀ q ∈ Y, RelOk q.1) ∧
        St Zf [BlkA (w.heap.size + 1 + 1) 27 #[.slice A0 N.length c0, .slice A1 k c1], RwA 47 5 (.slice A1 k c1) k (Y.flatMap rcs), Sep (Y.map rlA), NsA (.slice A0 N.length c0) N, BlkA (w.heap.size + 1) 27 #[.slice none 0 0, .slice none 0 0], BlkA w.heap.size 27 #[.slice A N.length c, .slice A' R.length c']] w wr) (fun i _ => R.length - (intOf i).toNat)
      case atStart => exact ⟨[], none, 0, 0, Nat.zero_le _, rfl, rfl, rfl, (fun q hq => by cases hq), hns⟩
      case round =>
        obtain ⟨Y, A1, c1, k, hk, rfl, hkk, hX, hok, hst⟩ := hrel
        clear hns
        obtain ⟨x0, x1⟩ := gr_cells hst.bring5
        by_cases hlt : k < R.length
        · obtain ⟨p, hp⟩ : ∃ p, R[k]? = some p := ⟨_, List.getElem?_eq_getElem hlt⟩
          have htk : R.take (k + 1) = R.take k ++ [p] := by
            rw [List.take_succ_eq_append_getElem hlt]
            rw [List.getElem?_eq_getElem hlt] at hp
            injection hp with hp
            rw [hp]
          have hbw := hst.bel
          have hsz := hbw.size
          have hmem : p ∈ R := List.mem_of_getElem? hp
          obtain ⟨b, off, rfl, hbB, A3, c3, hc, hr2, ok1, ok2, ok3, ok4, ok5⟩ := (RelsR.below H2.out (hbw.mono hB)) k _ hp
          obtain ⟨q0, q1, q2, q3, q4⟩ := rel_cells hc
          have pb2 := B4.out p hmem
          have Hx := Lib.hid hX
          have Hok := Lib.hid hok
          have Htk := Lib.hid htk
          have Hkk := Lib.hid hkk
          have Hpk : Hid (RelOk p) := Lib.hid ⟨ok1, ok2, ok3, ok4, ok5⟩
          obtain ⟨pid, pt, ps, pd, pp⟩ := p
          simp only at q0 q1 q2 q3 q4 hr2 ok4 ok5 pb2
          have hn := hst.newBlk 47 #[.int .i64 pid, .string pt, .int .i64 ps, .int .i64 pd, .slice A3 pp.length c3]
          obtain ⟨w1, hw1⟩ : ∃ x, x = wr.alloc (.cells #[.int .i64 pid, .string pt, .int .i64 ps, .int .i64 pd, .slice A3 pp.length c3] 47) := ⟨_, rfl⟩
          rw [← hw1] at hn
          have hbn : Below wr.heap.size wr w1 := by rw [hw1]; exact (Below.refl _ _).alloc (Nat.le_refl _) _
          have hb1d : Below wr.heap.size wr w1.drew := ⟨hbn.os, hbn.tape, hbn.output, hbn.size, hbn.block⟩
          have Hw1 := Lib.hid hw1
          have HC : Hid (∀ w', Below wr.heap.size wr w' → Calls Tryz.prog 36 #[.slice A3 pp.length c3] w' (NewPs pp w')) := Lib.hid fun w' hb => refCopyProps_any A3 c3 B pp w' (PropsR.below hr2 (hb.mono (by omega))) (by have := hb.size; omega) pb2
          have HF : Hid (∀ A5 c5 gg cap2 w5, St Zf [BlkA (w.heap.size + 1 + 1) 27 #[.slice A0 N.length c0, .slice (some ⟨gg, 0, none⟩) (k + 1) cap2], RwA 47 5 (.slice (some ⟨gg, 0, none⟩) (k + 1) cap2) (k + 1) (Y.flatMap rcs ++ [.int .i64 pid, .string pt, .int .i64 ps, .int .i64 pd, .slice A5 pp.length c5]), PsA (.slice A5 pp.length c5) pp, BlkA wr.heap.size 47 #[.int .i64 pid, .string pt, .int .i64 ps, .int .i64 pd, .slice A3 pp.length c3], Sep (Y.map rlA), NsA (.slice A0 N.length c0) N, BlkA (w.heap.size + 1) 27 #[.slice none 0 0, .slice none 0 0], BlkA w.heap.size 27 #[.slice A N.length c, .slice (some ⟨b, off, none⟩) R.length c']] w w5 →
              St Zf [BlkA (w.heap.size + 1 + 1) 27 #[.slice A0 N.length c0, .slice (some ⟨gg, 0, none⟩) (k + 1) cap2], RwA 47 5 (.slice (some ⟨gg, 0, none⟩) (k + 1) cap2) (k + 1) ((Y ++ [((⟨pid, pt, ps, pd, pp⟩ : Rv), (⟨A5, c5, none, 0⟩ : Pl))]).flatMap rcs), Sep ((Y ++ [((⟨pid, pt, ps, pd, pp⟩ : Rv), (⟨A5, c5, none, 0⟩ : Pl))]).map rlA), NsA (.slice A0 N.length c0) N, BlkA (w.heap.size + 1) 27 #[.slice none 0 0, .slice none 0 0], BlkA w.heap.size 27 #[.slice A N.length c, .slice (some ⟨b, off, none⟩) R.length c']] w w5) := Lib.hid fun A5 c5 gg cap2 w5 h => by
            have k2 := h.bring3.drop.bring3.bring3
            have k3 : St Zf (Sep (Y.map rlA ++ [rlA (⟨pid, pt, ps, pd, pp⟩, ⟨A5, c5, none, 0⟩)]) :: _) w w5 := St.snocSep k2
            have k4 := k3.bring2.bring2
            rw [List.flatMap_append, List.map_append]
            simpa [rcs, rcells] using k4
          have HN := Lib.hid hn
          have hk0 : (0 : Int) ≤ (k : Int) := by omega
          have hk1 : (k : Int) < (R.length : Int) := by omega
          have hby64 : (k + 1) * 64 ≤ 140737488355328 := by omega
          have hst' := hst.blk.lt
          obtain ⟨y0, y1, y2, y3, y4⟩ := rl_cells hn
          obtain ⟨o0, o1⟩ := gr_cells hn.swap
          clear hc hr2 hp hX hok htk hst hkk ok1 ok2 ok3 hw1 hmem hn
          have hne1 : wr.heap.size ≠ w.heap.size + 1 + 1 := by omega
          go_wp2
          rw [← Hw1.out]
          refine wp_region_held_drew (S := (fun w' => w'.cell? ⟨wr.heap.size, 0, none⟩ = some (.int .i64 pid) ∧ w'.cell? ⟨wr.heap.size, 1, none⟩ = some (.string pt) ∧ w'.cell? ⟨wr.heap.size, 2, none⟩ = some (.int .i64 ps) ∧ w'.cell? ⟨wr.heap.size, 3, none⟩ = some (.int .i64 pd) ∧ w'.cell? ⟨wr.heap.size, 4, none⟩ = some (.slice A3 pp.length c3))) (by kernel_rfl) (by (try dsimp only); go_keep) (fun hHeld => ?_)
          refine wpAnyH_take (i := 0) (v := ?_) rfl (by kernel_rfl) (by kernel_rfl) (by kernel_rfl) (fun _ _ _ h => h) (Or.inl ⟨by rfl, ?_⟩) (by assumption) ?_
          rotate_left
          · (intro w hSw; (try dsimp only at hSw); go_simp; try with_reducible rfl)
          try simp only [Act.put, List.setIfInBounds_toArray, List.set_cons_zero, List.set_cons_succ]
          refine wpAnyH_take (i := 2) (v := ?_) rfl (by kernel_rfl) (by kernel_rfl) (by kernel_rfl) (fun _ _ _ h => h) (Or.inl ⟨by rfl, ?_⟩) (by assumption) ?_
          rotate_left
          · (intro w hSw; (try dsimp only at hSw); go_simp; try with_reducible rfl)
          try simp only [Act.put, List.setIfInBounds_toArray, List.set_cons_zero, List.set_cons_succ]
          refine wpAnyH_take (i := 3) (v := ?_) rfl (by kernel_rfl) (by kernel_rfl) (by kernel_rfl) (fun _ _ _ h => h) (Or.inl ⟨by rfl, ?_⟩) (by assumption) ?_
          rotate_left
          · (intro w hSw; (try dsimp only at hSw); go_simp; try with_reducible rfl)
          try simp only [Act.put, List.setIfInBounds_toArray, List.set_cons_zero, List.set_cons_succ]
          refine wpAnyH_take (i := 4) (v := ?_) rfl (by kernel_rfl) (by kernel_rfl) (by kernel_rfl) (fun _ _ _ h => h) (Or.inl ⟨by rfl, ?_⟩) (by assumption) ?_
          rotate_left
          · (intro w hSw; (try dsimp only at hSw); go_simp; try with_reducible rfl)
          try simp only [Act.put, List.setIfInBounds_toArray, List.set_cons_zero, List.set_cons_succ]
          refine wpAnyH_take (i := 5) (v := ?_) rfl (by kernel_rfl) (by kernel_rfl) (by kernel_rfl) (fun _ _ _ h => h) (Or.inl ⟨by rfl, ?_⟩) (by assumption) ?_
          rotate_left
          · (intro w hSw; (try dsimp only at hSw); go_simp; try with_reducible rfl)
          try simp only [Act.put, List.setIfInBounds_toArray, List.set_cons_zero, List.set_cons_succ]
          refine wpAnyH_take (i := 6) (v := ?_) rfl (by kernel_rfl) (by kernel_rfl) (by kernel_rfl) (fun _ _ _ h => h) (Or.inl ⟨by rfl, ?_⟩) (by assumption) ?_
          rotate_left
          · (intro w hSw; (try dsimp only at hSw); go_simp; try with_reducible rfl)
          try simp only [Act.put, List.setIfInBounds_toArray, List.set_cons_zero, List.set_cons_succ]
          refine wpAnyH_take (i := 7) (v := ?_) rfl (by kernel_rfl) (by kernel_rfl) (by kernel_rfl) (fun _ _ _ h => h) (Or.inl ⟨by rfl, ?_⟩) (by assumption) ?_
          rotate_left
          · (intro w hSw; (try dsimp only at hSw); go_simp; try with_reducible rfl)
          try simp only [Act.put, List.setIfInBounds_toArray, List.set_cons_zero, List.set_cons_succ]
          refine wpAnyH_take (i := 8) (v := ?_) rfl (by kernel_rfl) (by kernel_rfl) (by kernel_rfl) (fun _ _ _ h => h) (Or.inl ⟨by rfl, ?_⟩) (by assumption) ?_
          rotate_left
          · (intro w hSw; (try dsimp only at hSw); go_simp; try with_reducible rfl)
          try simp only [Act.put, List.setIfInBounds_toArray, List.set_cons_zero, List.set_cons_succ]
          refine wpAnyH_take (i := 9) (v := ?_) rfl (by kernel_rfl) (by kernel_rfl) (by kernel_rfl) (fun _ _ _ h => h) (Or.inl ⟨by rfl, ?_⟩) (by assumption) ?_
          rotate_left
          · (intro w hSw; (try dsimp only at hSw); go_simp; try with_reducible rfl)
          try simp only [Act.put, List.setIfInBounds_toArray, List.set_cons_zero, List.set_cons_succ]
          refine wpAnyH_take (i := 10) (v := ?_) rfl (by kernel_rfl) (by kernel_rfl) (by kernel_rfl) (fun _ _ _ h => h) (Or.inl ⟨by rfl, ?_⟩) (by assumption) ?_
          rotate_left
          · (intro w hSw; (try dsimp only at hSw); go_simp; try with_reducible rfl)
          try simp only [Act.put, List.setIfInBounds_toArray, List.set_cons_zero, List.set_cons_succ]
          refine wpAnyH_take (i := 11) (v := ?_) rfl (by kernel_rfl) (by kernel_rfl) (by kernel_rfl) (fun _ _ _ h => h) (Or.inl ⟨by rfl, ?_⟩) (by assumption) ?_
          rotate_left
          · (intro w hSw; (try dsimp only at hSw); go_simp; try with_reducible rfl)
          try simp only [Act.put, List.setIfInBounds_toArray, List.set_cons_zero, List.set_cons_succ]
          refine wpAnyH_ready (rs := [1, 12]) (by kernel_rfl) (by simp) ?_
          refine AllReadyH.cons rfl (fun K hK => ?_) ?_
          · go_simp
            refine hK.out _ _ (by (try dsimp only); go_keep) (fun hHeld => ?_)
            clear hK K
            try simp only [Act.put, List.setIfInBounds_toArray, List.set_cons_zero, List.set_cons_succ]
            refine wpAnyH_ready (rs := [12]) (by kernel_rfl) (by simp) ?_
            refine AllReadyH.cons rfl (fun K hK => ?_) AllReadyH.nil
            go_simp
            go_at_call 36
            refine (HC.out _ hb1d).mono ?_
            rintro e w3 ⟨v3, F3, rfl, hps, hF3, hb3⟩
            have H5 := Lib.hid (HN.out.drew.newPs hps hF3 hb3)
            obtain ⟨A5, c5, rfl, -⟩ := hps.reads
            obtain ⟨y5, y6, y7, y8, y9⟩ := rl_cells H5.out.swap
            obtain ⟨o9, o10⟩ := gr_cells H5.out.bring2
            obtain ⟨o14, o15⟩ := gr_cells (H5.out.alloc (.cells #[.int .i64 pid, .string pt, .int .i64 ps, .int .i64 pd, .slice A5 pp.length c5] 47)).bring2
            clear hps hF3 hb3
            refine hK.out _ _ (by (try dsimp only); go_keep) (fun hHeld => ?_)
            clear hK K
            try simp only [Act.put, List.setIfInBounds_toArray, List.set_cons_zero, List.set_cons_succ]
            refine wpAnyH_take (i := 13) (v := ?_) rfl (by kernel_rfl) (by kernel_rfl) (by kernel_rfl) (fun _ _ _ h => h) (Or.inl ⟨by rfl, ?_⟩) (by assumption) ?_
            rotate_left
            · (intro w hSw; (try dsimp only at hSw); go_simp; try with_reducible rfl)
            try simp only [Act.put, List.setIfInBounds_toArray, List.set_cons_zero, List.set_cons_succ]
            refine wpAnyH_ready (rs := [14]) (by kernel_rfl) (by simp) ?_
            refine AllReadyH.cons rfl (fun K hK => ?_) AllReadyH.nil
            go_simp
            refine hK.out _ _ (by (try dsimp only); go_keep) (fun hHeld => ?_)
            clear hK K
            try simp only [Act.put, List.setIfInBounds_toArray, List.set_cons_zero, List.set_cons_succ]
            refine wpAnyH_ready (rs := [15]) (by kernel_rfl) (by simp) ?_
            refine AllReadyH.cons rfl (fun K hK => ?_) AllReadyH.nil
            refine step_append_new w3 (by rfl) _ _ _ (by rfl) 47 i1 zz1 5 64 Tryz.underlying25 hi1 hz1 hs1 hby1 hzs1 (by omega) (by omega) _ k (Y.flatMap rcs) (by rfl) H5.out.bring3.rw_ #[.int .i64 pid, .string pt, .int .i64 ps, .int .i64 pd, .slice A5 pp.length c5] (by rfl) (rcs_one (⟨pid, pt, ps, pd, pp⟩, ⟨A5, c5, none, 0⟩)) (by rfl) hby64 ?_
            intro gg cap2 w4 hown4 hgrow4 hat4 hltg4
            have H6 := Lib.hid ((H5.out.alloc (.cells #[.int .i64 pid, .string pt, .int .i64 ps, .int .i64 pd, .slice A5 pp.length c5] 47)).bring3.grewRw hown4 hgrow4 (hat4.elim (fun e => .inl e.symm) fun e => .inr (congrArg some e)) (by simp))
            obtain ⟨o12, o13⟩ := gr_cells H6.out.bring3
            have f12 := H6.out.bring3.blk.frozen 1
            obtain ⟨y10, y11, y12, y13, y14⟩ := rl_cells H6.out.bring2
            have H7 := Lib.hid (H6.out.bring3.setBlk 1 (.slice (some ⟨gg, 0, none⟩) (k + 1) cap2))
            obtain ⟨y15, y16, y17, y18, y19⟩ := rl_cells H7.out.bring3
            clear hown4 hgrow4 hat4
            refine hK.out _ _ (by (try dsimp only); go_keep) (fun hHeld => ?_)
            clear hK K
            try simp only [Act.put, List.setIfInBounds_toArray, List.set_cons_zero, List.set_cons_succ]
            refine wpAnyH_take (i := 16) (v := ?_) rfl (by kernel_rfl) (by kernel_rfl) (by kernel_rfl) (fun _ _ _ h => h) (Or.inl ⟨by rfl, ?_⟩) (by assumption) ?_
            rotate_left
            · (intro w hSw; (try dsimp only at hSw); go_simp; try with_reducible rfl)
            try simp only [Act.put, List.setIfInBounds_toArray, List.set_cons_zero, List.set_cons_succ]
            refine wpAnyH_ready (rs := [17]) (by kernel_rfl) (by simp) ?_
            refine AllReadyH.cons rfl (fun K hK => ?_) AllReadyH.nil
            go_simp
            refine hK.out _ _ (by (try dsimp only); go_keep) (fun hHeld => ?_)
            clear hK K
            try simp only [Act.put, List.setIfInBounds_toArray, List.set_cons_zero, List.set_cons_succ]
            refine wpAnyH_done (by kernel_rfl) ?_ _
            have hfin := HF.out A5 c5 gg cap2 _ H7.out
            clear H7 H6 H5
            go_wp2
            go_roundw
            case rel => exact ⟨Y ++ [((⟨pid, pt, ps, pd, pp⟩ : Rv), (⟨A5, c5, none, 0⟩ : Pl))], some ⟨gg, 0, none⟩, cap2, k + 1, by omega, by go_num, by simp [Hkk.out], by rw [List.map_append, Hx.out, Htk.out]; rfl, fun q hq => (List.mem_append.1 hq).elim (Hok.out q) fun h => by rw [List.mem_singleton.1 h]; exact Hpk.out, hfin⟩
            case measure => simp [intOf]; omega
          refine AllReadyH.cons rfl (fun K hK => ?_) AllReadyH.nil
          go_simp
          go_at_call 36
          refine (HC.out _ hb1d).mono ?_
          rintro e w3 ⟨v3, F3, rfl, hps, hF3, hb3⟩
          have H5 := Lib.hid (HN.out.drew.newPs hps hF3 hb3)
          obtain ⟨A5, c5, rfl, -⟩ := hps.reads
          obtain ⟨y5, y6, y7, y8, y9⟩ := rl_cells H5.out.swap
          obtain ⟨o9, o10⟩ := gr_cells H5.out.bring2
          obtain ⟨o14, o15⟩ := gr_cells (H5.out.alloc (.cells #[.int .i64 pid, .string pt, .int .i64 ps, .int .i64 pd, .slice A5 pp.length c5] 47)).bring2
          clear hps hF3 hb3
          refine hK.out _ _ (by (try dsimp only); go_keep) (fun hHeld => ?_)
          clear hK K
          try simp only [Act.put, List.setIfInBounds_toArray, List.set_cons_zero, List.set_cons_succ]
          refine wpAnyH_take (i := 13) (v := ?_) rfl (by kernel_rfl) (by kernel_rfl) (by kernel_rfl) (fun _ _ _ h => h) (Or.inl ⟨by rfl, ?_⟩) (by assumption) ?_
          rotate_left
          · (intro w hSw; (try dsimp only at hSw); go_simp; try with_reducible rfl)
          try simp only [Act.put, List.setIfInBounds_toArray, List.set_cons_zero, List.set_cons_succ]
          refine wpAnyH_ready (rs := [1, 14]) (by kernel_rfl) (by simp) ?_
          refine AllReadyH.cons rfl (fun K hK => ?_) ?_
          · go_simp
            refine hK.out _ _ (by (try dsimp only); go_keep) (fun hHeld => ?_)
            clear hK K
            try simp only [Act.put, List.setIfInBounds_toArray, List.set_cons_zero, List.set_cons_succ]
            refine wpAnyH_ready (rs := [14]) (by kernel_rfl) (by simp) ?_
            refine AllReadyH.cons rfl (fun K hK => ?_) AllReadyH.nil
            go_simp
            refine hK.out _ _ (by (try dsimp only); go_keep) (fun hHeld => ?_)
            clear hK K
            try simp only [Act.put, List.setIfInBounds_toArray, List.set_cons_zero, List.set_cons_succ]
            refine wpAnyH_ready (rs := [15]) (by kernel_rfl) (by simp) ?_
            refine AllReadyH.cons rfl (fun K hK => ?_) AllReadyH.nil
            refine step_append_new w3 (by rfl) _ _ _ (by rfl) 47 i1 zz1 5 64 Tryz.underlying25 hi1 hz1 hs1 hby1 hzs1 (by omega) (by omega) _ k (Y.flatMap rcs) (by rfl) H5.out.bring3.rw_ #[.int .i64 pid, .string pt, .int .i64 ps, .int .i64 pd, .slice A5 pp.length c5] (by rfl) (rcs_one (⟨pid, pt, ps, pd, pp⟩, ⟨A5, c5, none, 0⟩)) (by rfl) hby64 ?_
            intro gg cap2 w4 hown4 hgrow4 hat4 hltg4
            have H6 := Lib.hid ((H5.out.alloc (.cells #[.int .i64 pid, .string pt, .int .i64 ps, .int .i64 pd, .slice A5 pp.length c5] 47)).bring3.grewRw hown4 hgrow4 (hat4.elim (fun e => .inl e.symm) fun e => .inr (congrArg some e)) (by simp))
            obtain ⟨o12, o13⟩ := gr_cells H6.out.bring3
            have f12 := H6.out.bring3.blk.frozen 1
            obtain ⟨y10, y11, y12, y13, y14⟩ := rl_cells H6.out.bring2
            have H7 := Lib.hid (H6.out.bring3.setBlk 1 (.slice (some ⟨gg, 0, none⟩) (k + 1) cap2))
            obtain ⟨y15, y16, y17, y18, y19⟩ := rl_cells H7.out.bring3
            clear hown4 hgrow4 hat4
            refine hK.out _ _ (by (try dsimp only); go_keep) (fun hHeld => ?_)
            clear hK K
            try simp only [Act.put, List.setIfInBounds_toArray, List.set_cons_zero, List.set_cons_succ]
            refine wpAnyH_take (i := 16) (v := ?_) rfl (by kernel_rfl) (by kernel_rfl) (by kernel_rfl) (fun _ _ _ h => h) (Or.inl ⟨by rfl, ?_⟩) (by assumption) ?_
            rotate_left
            · (intro w hSw; (try dsimp only at hSw); go_simp; try with_reducible rfl)
            try simp only [Act.put, List.setIfInBounds_toArray, List.set_cons_zero, List.set_cons_succ]
            refine wpAnyH_ready (rs := [17]) (by kernel_rfl) (by simp) ?_
            refine AllReadyH.cons rfl (fun K hK => ?_) AllReadyH.nil
            go_simp
            refine hK.out _ _ (by (try dsimp only); go_keep) (fun hHeld => ?_)
            clear hK K
            try simp only [Act.put, List.setIfInBounds_toArray, List.set_cons_zero, List.set_cons_succ]
            refine wpAnyH_done (by kernel_rfl) ?_ _
            have hfin := HF.out A5 c5 gg cap2 _ H7.out
            clear H7 H6 H5
            go_wp2
            go_roundw
            case rel => exact ⟨Y ++ [((⟨pid, pt, ps, pd, pp⟩ : Rv), (⟨A5, c5, none, 0⟩ : Pl))], some ⟨gg, 0, none⟩, cap2, k + 1, by omega, by go_num, by simp [Hkk.out], by rw [List.map_append, Hx.out, Htk.out]; rfl, fun q hq => (List.mem_append.1 hq).elim (Hok.out q) fun h => by rw [List.mem_singleton.1 h]; exact Hpk.out, hfin⟩
            case measure => simp [intOf]; omega
          refine AllReadyH.cons rfl (fun K hK => ?_) AllReadyH.nil
          go_simp
          refine hK.out _ _ (by (try dsimp only); go_keep) (fun hHeld => ?_)
          clear hK K
          try simp only [Act.put, List.setIfInBounds_toArray, List.set_cons_zero, List.set_cons_succ]
          refine wpAnyH_ready (rs := [1]) (by kernel_rfl) (by simp) ?_
          refine AllReadyH.cons rfl (fun K hK => ?_) AllReadyH.nil
          go_simp
          refine hK.out _ _ (by (try dsimp only); go_keep) (fun hHeld => ?_)
          clear hK K
          try simp only [Act.put, List.setIfInBounds_toArray, List.set_cons_zero, List.set_cons_succ]
          refine wpAnyH_ready (rs := [15]) (by kernel_rfl) (by simp) ?_
          refine AllReadyH.cons rfl (fun K hK => ?_) AllReadyH.nil
          refine step_append_new w3 (by rfl) _ _ _ (by rfl) 47 i1 zz1 5 64 Tryz.underlying25 hi1 hz1 hs1 hby1 hzs1 (by omega) (by omega) _ k (Y.flatMap rcs) (by rfl) H5.out.bring3.rw_ #[.int .i64 pid, .string pt, .int .i64 ps, .int .i64 pd, .slice A5 pp.length c5] (by rfl) (rcs_one (⟨pid, pt, ps, pd, pp⟩, ⟨A5, c5, none, 0⟩)) (by rfl) hby64 ?_
          intro gg cap2 w4 hown4 hgrow4 hat4 hltg4
          have H6 := Lib.hid ((H5.out.alloc (.cells #[.int .i64 pid, .string pt, .int .i64 ps, .int .i64 pd, .slice A5 pp.length c5] 47)).bring3.grewRw hown4 hgrow4 (hat4.elim (fun e => .inl e.symm) fun e => .inr (congrArg some e)) (by simp))
          obtain ⟨o12, o13⟩ := gr_cells H6.out.bring3
          have f12 := H6.out.bring3.blk.frozen 1
          obtain ⟨y10, y11, y12, y13, y14⟩ := rl_cells H6.out.bring2
          have H7 := Lib.hid (H6.out.bring3.setBlk 1 (.slice (some ⟨gg, 0, none⟩) (k + 1) cap2))
          obtain ⟨y15, y16, y17, y18, y19⟩ := rl_cells H7.out.bring3
          clear hown4 hgrow4 hat4
          refine hK.out _ _ (by (try dsimp only); go_keep) (fun hHeld => ?_)
          clear hK K
          try simp only [Act.put, List.setIfInBounds_toArray, List.set_cons_zero, List.set_cons_succ]
          refine wpAnyH_take (i := 16) (v := ?_) rfl (by kernel_rfl) (by kernel_rfl) (by kernel_rfl) (fun _ _ _ h => h) (Or.inl ⟨by rfl, ?_⟩) (by assumption) ?_
          rotate_left
          · (intro w hSw; (try dsimp only at hSw); go_simp; try with_reducible rfl)
          try simp only [Act.put, List.setIfInBounds_toArray, List.set_cons_zero, List.set_cons_succ]
          refine wpAnyH_ready (rs := [17]) (by kernel_rfl) (by simp) ?_
          refine AllReadyH.cons rfl (fun K hK => ?_) AllReadyH.nil
          go_simp
          refine hK.out _ _ (by (try dsimp only); go_keep) (fun hHeld => ?_)
          clear hK K
          try simp only [Act.put, List.setIfInBounds_toArray, List.set_cons_zero, List.set_cons_succ]
          refine wpAnyH_done (by kernel_rfl) ?_ _
          have hfin := HF.out A5 c5 gg cap2 _ H7.out
          clear H7 H6 H5
          go_wp2
          go_roundw
          case rel => exact ⟨Y ++ [((⟨pid, pt, ps, pd, pp⟩ : Rv), (⟨A5, c5, none, 0⟩ : Pl))], some ⟨gg, 0, none⟩, cap2, k + 1, by omega, by go_num, by simp [Hkk.out], by rw [List.map_append, Hx.out, Htk.out]; rfl, fun q hq => (List.mem_append.1 hq).elim (Hok.out q) fun h => by rw [List.mem_singleton.1 h]; exact Hpk.out, hfin⟩
          case measure => simp [intOf]; omega
        · obtain rfl : k = R.length := by omega
          rw [List.take_length] at hX
          have k1 := St.pack (l' := [_, _]) hst.bring2.bring2
          have k2 : St Zf (RsA (.slice A1 R.length c1) R :: _) w wr := k1.mapHead fun F h => ⟨Y, ⟨hX, fun p hp => by
            rw [← hX] at hp
            obtain ⟨q, hq, rfl⟩ := List.mem_map.1 hp
            exact hok q hq⟩, h⟩
          have k3 := ((k2.bring3.setBlk 0 (.slice A0 N.length c0)).setBlk 1 (.slice A1 R.length c1))
          have hblk := k3.blk
          have k4 := St.pack (l' := [_, _]) k3.drop.bring2
          have k5 : St Zf [GA ⟨N, R⟩ A0 c0 A1 c1] w _ := k4.swap.drop.swap.drop
          obtain ⟨F, f1, f2, f3⟩ := k5.fin
          obtain ⟨o0, o1⟩ := gr_cells k2.swap
          obtain ⟨z0, z1⟩ := gr_cells k2.bring3
          have g0 := k2.bring3.blk.frozen 0
          have g1 := k2.bring3.blk.frozen 1
          clear hst hX hok hkk k1 k2 k3 k4 k5
          go_wp2
          try simp only [Exit.inBlock, Exit.then]
          refine bodyPost_ret (results_cell_row rfl _ _ (w.heap.size + 1) 27 #[.slice A0 N.length c0, .slice A1 R.length c1] (0, 0) _ rfl hblk Tryz.underlying27 rfl (by kernel_rfl)) rfl ?_
          exact ⟨A0, c0, A1, c1, F, rfl, f1, f2, f3⟩

end Go.Proofs.YthnaipgdjbaebaaGreat
