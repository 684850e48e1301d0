/- slots: the document's copy of a list of keys with values. -/
import Derived.Test.YtgpahglmhnnobaaGreatDoorSlBase
import Derived.Deep.RegionLaw
import Derived.Deep.RegionHeld3
import Derived.BigRegion
import Derived.Deep.Cut
namespace Go.Proofs.YtgpahglmhnnobaaGreatDoor
open Go.RowKit
set_option linter.unusedVariables false
set_option linter.unusedSimpArgs false

/-- append(s, x) of one struct that lies in a new block, at a step of a region that draws its order -/
theorem step_append_new {P : Program} (w : World) {ops : Array Oper} {o : Oper} {a : Act} {K : Act → World → Prop} {Q : Exit → Act → World → Prop} {E : Prop} (hgd : o.guard = none) (s x : Operand) (t : TypeId)
    (ho : o.op = .call { callee := .builtin .append, args := #[s, x], argTypes := #[t, t] })
    (e : TypeId) (i : TypeInfo) (z : Value) (size bytes : Nat) (ht : P.underlying t = some (.slice e)) (hi : P.info? e = some i) (hz : i.zero = some z) (hsize : i.size = size) (hby : i.bytes = bytes) (hzs : z.cells.size = size) (hsz : 0 < size) (hb0 : 0 < bytes)
    (v : Value) (n : Nat) (xs : List Value) (hs : a.eval s = v) (hown : w.ownsRow 0 e size v n xs) (cs : Array Value) (hcs : cs.toList.length = size) (h1 : ∀ u ∈ cs.toList, u.oneCell' = true)
    (hx : a.eval x = .slice (some ⟨w.heap.size, 0, none⟩) 1 1) (hbytes : (n + 1) * bytes ≤ 140737488355328)
    (h : ∀ g cap w', w'.ownsRow 0 e size (.slice (some ⟨g, 0, none⟩) (n + 1) cap) (n + 1) (xs ++ cs.toList) → (w.alloc (.cells cs e)).grownBy w' v.ownBlock → (v.ownBlock = some g ∨ g = w.heap.size + 1) → g < w'.heap.size → K (a.put o.dst (.slice (some ⟨g, 0, none⟩) (n + 1) cap)) w') :
    if Region.wanted o (yielded ops a.tmps) = true then Oper.wp P o a (w.alloc (.cells cs e)) K Q else E := by
  have h64 : n + 1 ≤ (n + 1) * bytes := Nat.le_mul_of_pos_right _ hb0
  exact step_append_lies (w.alloc (.cells cs e)) hgd s x t ho 0 e i z size bytes ht hi hz hsize hby hzs hsz v n xs hs (hown.alloc _) ⟨w.heap.size, 0, none⟩ 1 1 cs.toList hx (by rw [hcs, Nat.one_mul]) (World.news_of_block (heap_alloc_new w _)) h1 (by omega) (by simp only [maxLen]; omega) hbytes (Nat.zero_le _) (w.heap.size + 1) (by simp) h

theorem row_info {P : Program} {t : TypeId} {s b : Nat} (h : (P.info? t).map (fun i => (i.zero.map (·.cells.size), i.size, i.bytes)) = some (some s, s, b)) :
    ∃ i z, P.info? t = some i ∧ i.zero = some z ∧ i.size = s ∧ i.bytes = b ∧ z.cells.size = s := by
  rcases hq : P.info? t with _ | i
  · rw [hq] at h; cases h
  · rw [hq] at h
    simp only [Option.map_some, Option.some.injEq, Prod.mk.injEq] at h
    rcases hz : i.zero with _ | z
    · rw [hz] at h; simp at h
    · rw [hz] at h
      simp only [Option.map_some, Option.some.injEq] at h
      exact ⟨i, z, rfl, hz, h.2.1, h.2.2, h.1⟩
theorem kv_info : (Tryz.prog.info? 44).map (fun i => (i.zero.map (·.cells.size), i.size, i.bytes)) = some (some 6, 6, 88) := by kernel_rfl
/-- new properties, out of a call -/
def NewKvs (L : List Kv) (w : World) (e : Ending) (w' : World) : Prop := ∃ v F, e = .returned v ∧ KvsA v L w' F ∧ (∀ k, F k → w.heap.size ≤ k) ∧ Below w.heap.size w w'

section
variable {S : Fp} {l : List Ass} {w0 w w' : World}
theorem St.newPp [Stable (Sep l)] (h : St S l w0 w) {p : Kv} {x : Pl} (h1 : OL ivl w' w.heap.size 2 (.slice x.A p.v.ns.length x.c) p.v.ns) (h2 : OL svl w' w.heap.size 9 (.slice x.A' p.v.ts.length x.c') p.v.ts) (hb : Below w.heap.size w w') : St S (ppsA (p, x) :: l) w0 w' := by
  refine h.add (F := fun k => rfp (.slice x.A p.v.ns.length x.c) k ∨ rfp (.slice x.A' p.v.ts.length x.c') k) hb (Sep.two ⟨h1.mono (Nat.zero_le _), rfl⟩ ⟨h2.mono (Nat.zero_le _), rfl⟩ (rows_apart h1.2 h2.2 (by decide))) ?_
  rintro k (hk | hk)
  · exact (h1.2.lt k hk).1
  · exact (h2.2.lt k hk).1
end

set_option maxRecDepth 100000 in
set_option maxHeartbeats 4000000 in
theorem refCopyKv_any (A : Option Addr) (cap B : Nat) (L : List Kv) (w : World) (h : KvsR w B A L) (hB : B ≤ w.heap.size) (hl : L.length * 88 ≤ 140737488351232) :
    Calls Tryz.prog 7 #[.slice A L.length cap] w (NewKvs L w) := by
  obtain ⟨i0, zz, hi, hz, hs, hby, hzs⟩ := row_info kv_info
  have H := Lib.hid h
  have hst : St Zf [RwA 44 6 (.slice (some ⟨w.heap.size, 0, none⟩) 0 0) 0 [], Sep []] w (w.alloc (.cells #[] 44)) := ((St.start Zf w).nilSep).newNilRw (e := 44) (size := 6) rfl (by omega)
  clear h
  go_enter Tryz.func7, Tryz.ntmps7
  go_wp2
  go_loopw [3, 4] (fun v i wr => ∃ (X : List (Kv × Pl)) (gg0 cap0 k : Nat), k ≤ L.length ∧ i = .int .i64 k ∧ v = .slice (some ⟨gg0, 0, none⟩) k cap0 ∧ k = X.length ∧ X.map (·.1) = L.take k ∧ (∀ q ∈ X, KvOk q.1) ∧ St Zf [RwA 44 6 (.slice (some ⟨gg0, 0, none⟩) k cap0) k (X.flatMap pcs), Sep (X.map ppsA)] w wr) (fun _ i _ => L.length - (intOf i).toNat)
  case atStart => exact ⟨[], _, _, 0, Nat.zero_le _, rfl, rfl, rfl, rfl, (fun q hq => by cases hq), hst⟩
  case round =>
    obtain ⟨X, gg0, cap0, k, hk, rfl, rfl, hkk, hX, hok, hst1⟩ := hrel
    clear hst
    by_cases hlt : k < L.length
    · obtain ⟨p, hp⟩ : ∃ p, L[k]? = some p := ⟨_, List.getElem?_eq_getElem hlt⟩
      have htk : L.take (k + 1) = L.take k ++ [p] := by
        rw [List.take_succ_eq_append_getElem hlt]
        rw [List.getElem?_eq_getElem hlt] at hp
        injection hp with hp
        rw [hp]
      have hbw := hst1.bel
      have hsz := hbw.size
      have hA1 := hst1.rw_
      obtain ⟨b, off, rfl, hbB, A2, c2, A3, c3, hc, hr1, hr2, hv, hks⟩ := (KvsR.below H.out (hbw.mono hB)) k _ hp
      obtain ⟨q0, q1, q2, q3, q4, q5⟩ := kv_cells hc
      have HC : Hid (∀ w', Below wr.heap.size wr w' → Calls Tryz.prog 16 #[vagg p.v A2 c2 A3 c3] w' fun e w'' => ∃ A c A' c', e = .returned (vagg p.v A c A' c') ∧ OL ivl w'' w'.heap.size 2 (.slice A p.v.ns.length c) p.v.ns ∧ OL svl w'' w'.heap.size 9 (.slice A' p.v.ts.length c') p.v.ts ∧ Below w'.heap.size w' w'') := Lib.hid fun w' hb =>
        refCopy_own p.v _ B w' ⟨A2, c2, A3, c3, rfl, hr1.below (hb.mono (by omega)), hr2.below (hb.mono (by omega)), hv⟩ (by have := hb.size; omega)
      have HQ : Hid (∀ w', Below wr.heap.size wr w' → CellsAt w' b (off + k * 6) (kcells p A2 c2 A3 c3)) := Lib.hid fun w' hb => hc.below hb (by omega)
      have Hv := Lib.hid hv
      have Hp := Lib.hid hp
      have Hx := Lib.hid hX
      have Hok := Lib.hid hok
      have Htk := Lib.hid htk
      have Hkk := Lib.hid hkk
      obtain ⟨key, ⟨vk, vn, vs, ns, ts⟩⟩ := p
      simp only [vagg] at q0 q1 q2 q3 q4 q5 HC hks
      have hb0 : Below wr.heap.size wr wr.drew := ⟨rfl, rfl, rfl, Nat.le_refl _, fun _ _ => rfl⟩
      have hb00 := Below.refl wr.heap.size wr
      have hi0 : (0 : Int) ≤ (k : Int) := by omega
      have hi1 : (k : Int) < (L.length : Int) := by omega
      have hby88 : (k + 1) * 88 ≤ 140737488355328 := by omega
      have H1 := Lib.hid hst1
      clear hc hr1 hr2 hv hp hX hok htk hA1 hst1 hkk
      go_wp2
      go_region_law (first
        | (refine step_append_new w1 (by rfl) _ _ _ (by rfl) 44 i0 zz 6 88 Tryz.underlying22 hi hz hs hby hzs (by omega) (by omega) _ k (X.flatMap pcs) (by rfl) H2.out.swap.rw_ #[.int .i64 key, .int .i64 vk, .int .i64 vn, .string vs, .slice A4 ns.length c4, .slice A5 ts.length c5] (by rfl) (pcs_one (⟨key, ⟨vk, vn, vs, ns, ts⟩⟩, ⟨A4, c4, A5, c5⟩)) (by rfl) hby88 ?_; intro gg cap2 w2 hown2 hgrow hat hltg; have H3 := Lib.hid ((H2.out.alloc _).swap.grewRw hown2 hgrow (hat.elim (fun e => .inl e.symm) fun e => .inr (congrArg some e)) (by simp)))
        | (go_simp; go_at_call 16; refine (HC.out _ (by first | exact hb0 | exact hb00)).mono ?_; rintro e w1 ⟨A4, c4, A5, c5, rfl, o1, o2, hb1⟩; have hbX := Lib.hid (show Below wr.heap.size wr w1 from ⟨hb1.os, hb1.tape, hb1.output, hb1.size, hb1.block⟩); have H2 := Lib.hid (H1.out.newPp (p := ⟨key, ⟨vk, vn, vs, ns, ts⟩⟩) (x := ⟨A4, c4, A5, c5⟩) o1 o2 hbX.out); obtain ⟨z0, z1, z2, z3, z4, z5⟩ := kv_cells (HQ.out w1 hbX.out); clear o1 o2 hb1))
      all_goals
        have H4 : St Zf [RwA 44 6 (.slice (some ⟨gg, 0, none⟩) (k + 1) cap2) (k + 1) ((X ++ [((⟨key, ⟨vk, vn, vs, ns, ts⟩⟩ : Kv), (⟨A4, c4, A5, c5⟩ : Pl))]).flatMap pcs), Sep ((X ++ [((⟨key, ⟨vk, vn, vs, ns, ts⟩⟩ : Kv), (⟨A4, c4, A5, c5⟩ : Pl))]).map ppsA)] w w2 := by
          have h := H3.out.back2.snocSep.swap
          rw [List.flatMap_append, List.map_append]
          simpa [pcs, kcells] using h
        go_wp2
        go_roundw
        case rel =>
          refine ⟨_, gg, cap2, k + 1, by omega, by go_num, rfl, by simp [Hkk.out], ?_, ?_, H4⟩
          · rw [List.map_append, Hx.out, Htk.out]; rfl
          · intro q hq
            rcases List.mem_append.1 hq with hq | hq
            · exact Hok.out q hq
            · rw [List.mem_singleton.1 hq]; exact ⟨Hv.out, hks⟩
        case measure => simp [intOf]; omega
    · obtain rfl : k = L.length := by omega
      rw [List.take_length] at hX
      clear hkk
      go_wp2
      go_ret
      have hf := St.fin (P := KvsA (.slice (some ⟨gg0, 0, none⟩) L.length cap0) L) (hst1.pack (l' := [_, _]) |>.mapHead fun F h => ⟨X, ⟨hX, fun p hp => by
        rw [← hX] at hp
        obtain ⟨q, hq, rfl⟩ := List.mem_map.1 hp
        exact hok q hq⟩, h⟩)
      obtain ⟨F, f1, f2, f3⟩ := hf
      exact ⟨_, F, rfl, f1, f2, f3⟩

end Go.Proofs.YtgpahglmhnnobaaGreatDoor
