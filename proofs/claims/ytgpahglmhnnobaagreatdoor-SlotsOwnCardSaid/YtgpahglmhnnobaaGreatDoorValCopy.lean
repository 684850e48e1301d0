/- Copy of the document's: a value in new memory. -/
import Derived.Test.YtgpahglmhnnobaaGreatDoorValCheckA
import Derived.Test.YtgpahglmhnnobaaGreatDoorGet
import Derived.Deep.RegionHeld3
import Derived.Deep.RegionLaw
import Derived.BigRegion
import Derived.Deep.Cut
import Derived.IntWalk
namespace Go.Proofs.YtgpahglmhnnobaaGreatDoor
open Go.RowKit
set_option linter.unusedVariables false

theorem i64_info : (Tryz.prog.info? 2).map (fun i => (i.zero, i.size, i.bytes)) = some (some (.int .i64 0), 1, 8) := by kernel_rfl
theorem str_info : (Tryz.prog.info? 9).map (fun i => (i.zero, i.size, i.bytes)) = some (some (.string ⟨#[]⟩), 1, 16) := by kernel_rfl

/-- five cells of a block are written -/
def set5 (w : World) (g : Nat) (a b c d e : Value) : World := ((((w.setCell ⟨g, 0, none⟩ a).setCell ⟨g, 1, none⟩ b).setCell ⟨g, 2, none⟩ c).setCell ⟨g, 3, none⟩ d).setCell ⟨g, 4, none⟩ e
theorem set5_heap {w : World} {g k : Nat} {a b c d e : Value} (h : k ≠ g) : (set5 w g a b c d e).heap[k]? = w.heap[k]? := by
  unfold set5
  rw [Below.heap_setCell _ _ _ _ h, Below.heap_setCell _ _ _ _ h, Below.heap_setCell _ _ _ _ h, Below.heap_setCell _ _ _ _ h, Below.heap_setCell _ _ _ _ h]
theorem set5_below {B : Nat} {w0 w : World} {g : Nat} {a b c d e : Value} (h : Below B w0 w) (hg : B ≤ g) : Below B w0 (set5 w g a b c d e) := by
  unfold set5
  exact ((((h.setCell hg _).setCell hg _).setCell hg _).setCell hg _).setCell hg _
theorem OL.set5 {α : Type} {f : α → Value} {w : World} {base : Nat} {t : TypeId} {v : Value} {L : List α} (h : OL f w base t v L) {g : Nat} (hg : v.ownBlock ≠ some g) (a b c d e : Value) : OL f (set5 w g a b c d e) base t v L :=
  h.keep fun k hk => set5_heap (fun e => hg (by rw [← e]; exact hk))
theorem own_form {α : Type} {f : α → Value} {w : World} {base : Nat} {t : TypeId} {A : Option Addr} {c : Nat} {L : List α} (h : OL f w base t (.slice A L.length c) L) : RL f w w.heap.size A L := by
  obtain ⟨A3, c3, e3, -, -, r1, -⟩ := h.form
  simp only [Value.slice.injEq] at e3
  obtain ⟨rfl, -, rfl⟩ := e3
  exact r1

/-- a new value -/
def NewV (v : Vv) (w : World) (e : Ending) (w' : World) : Prop := ∃ x, e = .returned x ∧ VR w' w'.heap.size v x ∧ Below w.heap.size w w'

/-- a new value, its lists new too -/
def NewVO (v : Vv) (w : World) (e : Ending) (w' : World) : Prop := ∃ A c A' c', e = .returned (vagg v A c A' c') ∧ OL ivl w' w.heap.size 2 (.slice A v.ns.length c) v.ns ∧ OL svl w' w.heap.size 9 (.slice A' v.ts.length c') v.ts ∧ Below w.heap.size w w'

set_option maxRecDepth 100000 in
set_option maxHeartbeats 1000000 in
theorem refCopy_own (v : Vv) (x : Value) (B : Nat) (w : World) (h : VR w B v x) (hB : B ≤ w.heap.size) :
    Calls Tryz.prog 16 #[x] w (NewVO v w) := by
  obtain ⟨i0, hi, hz0, hz1, hz2⟩ := info_parts i64_info
  obtain ⟨j0, hj0, hy0, hy1, hy2⟩ := info_parts str_info
  obtain ⟨A, c, A', c', rfl, h1, h2, h3⟩ := h
  have hl1 := h3.ns2
  have hl2 := h3.ts2
  have H3 := Lib.hid h3
  obtain ⟨k, n, s, ns, ts⟩ := v
  unfold vagg
  simp only at hl1 hl2 h1 h2 ⊢
  have H1 := Lib.hid h1
  have H2 := Lib.hid h2
  clear h1 h2 h3
  go_enter Tryz.func16, Tryz.ntmps16
  go_wp2_with fail
  obtain ⟨w3, hw3⟩ : ∃ x, x = (((w.alloc (.cells #[.int .i64 k, .int .i64 n, .string s, .slice A ns.length c, .slice A' ts.length c'] 42)).alloc (.cells #[.int .i64 0, .int .i64 0, .string ⟨#[]⟩, .slice none 0 0, .slice none 0 0] 42)).alloc (.cells #[.int .i64 k, .int .i64 n, .string s, .slice none 0 0, .slice none 0 0] 42)) := ⟨_, rfl⟩
  rw [← hw3]
  obtain ⟨Bx, Br, Bt, hb3⟩ : Blk w3 w.heap.size 42 #[.int .i64 k, .int .i64 n, .string s, .slice A ns.length c, .slice A' ts.length c'] ∧ Blk w3 (w.heap.size + 1) 42 #[.int .i64 0, .int .i64 0, .string ⟨#[]⟩, .slice none 0 0, .slice none 0 0] ∧ Blk w3 (w.heap.size + 1 + 1) 42 #[.int .i64 k, .int .i64 n, .string s, .slice none 0 0, .slice none 0 0] ∧ Below w.heap.size w w3 := by
    subst hw3
    refine ⟨((Blk.new _ _ _).alloc _).alloc _, ?_, ?_, (((Below.refl _ _).alloc (Nat.le_refl _) _).alloc (by simp) _).alloc (by simp; omega) _⟩
    · have := (Blk.new (w.alloc (.cells #[.int .i64 k, .int .i64 n, .string s, .slice A ns.length c, .slice A' ts.length c'] 42)) 42 #[.int .i64 0, .int .i64 0, .string ⟨#[]⟩, .slice none 0 0, .slice none 0 0]).alloc (.cells #[.int .i64 k, .int .i64 n, .string s, .slice none 0 0, .slice none 0 0] 42)
      simpa using this
    · have := Blk.new ((w.alloc (.cells #[.int .i64 k, .int .i64 n, .string s, .slice A ns.length c, .slice A' ts.length c'] 42)).alloc (.cells #[.int .i64 0, .int .i64 0, .string ⟨#[]⟩, .slice none 0 0, .slice none 0 0] 42)) 42 #[.int .i64 k, .int .i64 n, .string s, .slice none 0 0, .slice none 0 0]
      simpa using this
  clear hw3
  go_loopw [4] (fun i wr => ∃ (j : Nat) (v1 : Value), j ≤ ns.length ∧ i = .int .i64 j ∧ Blk wr w.heap.size 42 #[.int .i64 k, .int .i64 n, .string s, .slice A ns.length c, .slice A' ts.length c'] ∧
      Blk wr (w.heap.size + 1) 42 #[.int .i64 0, .int .i64 0, .string ⟨#[]⟩, .slice none 0 0, .slice none 0 0] ∧ Blk wr (w.heap.size + 1 + 1) 42 #[.int .i64 k, .int .i64 n, .string s, v1, .slice none 0 0] ∧
      OL ivl wr w.heap.size 2 v1 (ns.take j) ∧ Below w.heap.size w wr) (fun i _ => ns.length - (intOf i).toNat)
  case atStart => exact ⟨0, _, Nat.zero_le _, rfl, Bx, Br, Bt, OL.nil _ _ _ _, hb3⟩
  case round =>
    clear Bx Br Bt hb3
    obtain ⟨j, v1, hj, rfl, Bx, Br, Bt, O1, hb⟩ := hrel
    by_cases hlt : j < ns.length
    · obtain ⟨b, off, rfl, hbB, hc⟩ := (H1.out.below (hb.mono hB)).allI (by omega)
      have qe := hc j hlt
      have hst := takeI_succ hlt
      obtain ⟨y, hy⟩ : ∃ y, y = nthI ns j := ⟨_, rfl⟩
      rw [← hy] at qe hst
      obtain ⟨P, hP⟩ : ∃ P, P = ns.take j := ⟨_, rfl⟩
      have hPl : P.length = j := by rw [hP, List.length_take]; omega
      rw [← hP] at O1 hst
      have Hst := Lib.hid hst
      obtain ⟨A1, c1, rfl, -, -, -, hlo⟩ := O1.form
      have Hlo := Lib.hid hlo
      have n1 : (Value.slice A1 P.length c1).ownBlock ≠ some (w.heap.size + 1 + 1) := own_blk_ne O1.2 Bt (by decide)
      have n2 : (Value.slice A1 P.length c1).ownBlock ≠ some w.heap.size := own_blk_ne O1.2 Bx (by decide)
      have n3 : (Value.slice A1 P.length c1).ownBlock ≠ some (w.heap.size + 1) := own_blk_ne O1.2 Br (by decide)
      have n4 : (Value.slice A1 P.length c1).ownBlock ≠ some b := fun e => by have := (hlo b e).1; omega
      obtain ⟨x0, x1, x2, x3, x4⟩ := box_cells Bx
      have t3 : wr.cell? ⟨w.heap.size + 1 + 1, 3, none⟩ = some (.slice A1 P.length c1) := by rw [Bt.cell 3]; rfl
      have hlx := Bx.lt
      have hlr := Br.lt
      have hlt' := Bt.lt
      have hi0 : (0 : Int) ≤ (j : Int) := by omega
      have hi1 : (j : Int) < (ns.length : Int) := by omega
      have HBx := Lib.hid Bx
      have HBr := Lib.hid Br
      have HBt := Lib.hid Bt
      have hbw : b < wr.heap.size := by omega
      have hbt : w.heap.size + 1 + 1 ≠ b := by omega
      have hby : (P.length + 1) * 8 ≤ 140737488355328 := by omega
      have HPl := Lib.hid hPl
      clear x0 x1 x2 x4 hc hy hP hPl hlo Bx Br Bt hst
      go_wp2_with fail
      go_region_law ((refine step_append_elem _ (by rfl) _ _ _ (by rfl) w.heap.size 2 i0 _ 8 Tryz.underlying39 hi hz0 hz1 hz2 rfl (.slice A1 P.length c1) P (by rfl) ((O1.alloc _).drewN 1) y (ivl_ok y) wr.heap.size (by rfl) (heap_alloc_new wr _) hby (by omega) (by simp; omega) ?_; intro gg cap w1 hown1 hgrow hat hltg; have Bt1 := Blk.grown ((HBt.out.alloc _).drewN 1) hgrow (Ne.symm n1); have u3 : w1.cell? ⟨w.heap.size + 1 + 1, 3, none⟩ = some (.slice A1 P.length c1) := (by rw [Bt1.cell 3]; rfl); have f3 := Bt1.frozen 3))
      all_goals
        have Bx1 := Blk.grown ((HBx.out.alloc (.cells #[.int .i64 y] 2)).drewN 1) hgrow (Ne.symm n2)
        have Br1 := Blk.grown ((HBr.out.alloc (.cells #[.int .i64 y] 2)).drewN 1) hgrow (Ne.symm n3)
        have n5 : gg ≠ w.heap.size + 1 + 1 := fun e => own_blk_ne hown1.2 Bt1 (by decide) (by rw [← e]; rfl)
        have hb1 : Below w.heap.size w w1 := (below_drewN (hb.alloc hb.size _) 1).grown hgrow (by simp; omega) fun k hk => (Hlo.out k hk).1
        go_wp2
        go_roundw
        case rel =>
          refine ⟨j + 1, .slice (some ⟨gg, 0, none⟩) (P.length + 1) cap, by omega, by go_num, Bx1.far (by simp; omega) _, Br1.far (by simp) _, ?_, ?_, hb1.setCell (by simp; omega) _⟩
          · have := Bt1.set_ 3 (.slice (some ⟨gg, 0, none⟩) (P.length + 1) cap)
            simpa using this
          · rw [Hst.out]
            exact hown1.keep fun g hg => Below.heap_setCell _ _ _ _ (by
              simp only [Value.ownBlock, Option.some.injEq] at hg
              rw [← hg]; exact n5)
        case measure => simp [intOf]; omega
    · obtain rfl : j = ns.length := by omega
      rw [List.take_length] at O1
      obtain ⟨w4, rfl⟩ : ∃ x : World, x = wr := ⟨_, rfl⟩
      obtain ⟨A1, c1, rfl, -, -, -, -⟩ := O1.form
      obtain ⟨x0, x1, x2, x3, x4⟩ := box_cells Bx
      go_wp2_with fail
      clear x0 x1 x2 x3 x4
      go_loopw [5] (fun i wr => ∃ (j : Nat) (v2 : Value), j ≤ ts.length ∧ i = .int .i64 j ∧ Blk wr w.heap.size 42 #[.int .i64 k, .int .i64 n, .string s, .slice A ns.length c, .slice A' ts.length c'] ∧
          Blk wr (w.heap.size + 1) 42 #[.int .i64 0, .int .i64 0, .string ⟨#[]⟩, .slice none 0 0, .slice none 0 0] ∧ Blk wr (w.heap.size + 1 + 1) 42 #[.int .i64 k, .int .i64 n, .string s, .slice A1 ns.length c1, v2] ∧
          OL ivl wr w.heap.size 2 (.slice A1 ns.length c1) ns ∧ OL svl wr w.heap.size 9 v2 (ts.take j) ∧ Below w.heap.size w wr) (fun i _ => ts.length - (intOf i).toNat)
      case atStart => exact ⟨0, _, Nat.zero_le _, rfl, Bx, Br, Bt, O1, OL.nil _ _ _ _, hb⟩
      case round =>
        clear Bx Br Bt O1 hb
        obtain ⟨j, v1, hj, rfl, Bx, Br, Bt, P1, O1, hb⟩ := hrel
        by_cases hlt : j < ts.length
        · obtain ⟨b, off, rfl, hbB, hc⟩ := (H2.out.below (hb.mono hB)).allS (by omega)
          have qe := hc j hlt
          have hst := takeS_succ hlt
          obtain ⟨y, hy⟩ : ∃ y, y = nthS ts j := ⟨_, rfl⟩
          rw [← hy] at qe hst
          obtain ⟨P, hP⟩ : ∃ P, P = ts.take j := ⟨_, rfl⟩
          have hPl : P.length = j := by rw [hP, List.length_take]; omega
          rw [← hP] at O1 hst
          have Hst := Lib.hid hst
          obtain ⟨A2, c2, rfl, -, -, -, hlo⟩ := O1.form
          have Hlo := Lib.hid hlo
          have n1 : (Value.slice A2 P.length c2).ownBlock ≠ some (w.heap.size + 1 + 1) := own_blk_ne O1.2 Bt (by decide)
          have n2 : (Value.slice A2 P.length c2).ownBlock ≠ some w.heap.size := own_blk_ne O1.2 Bx (by decide)
          have n3 : (Value.slice A2 P.length c2).ownBlock ≠ some (w.heap.size + 1) := own_blk_ne O1.2 Br (by decide)
          have n4 : ∀ g, (Value.slice A1 ns.length c1).ownBlock = some g → (Value.slice A2 P.length c2).ownBlock ≠ some g := by
            intro g hg e
            rcases P1.2.2 with ⟨h, _⟩ | ⟨g', cap, cur, h, _, hh, _⟩
            · injection h with h; subst h; cases hg
            · rw [h] at hg
              have : g' = g := by simpa [Value.ownBlock] using hg
              subst this
              exact own_blk_ne O1.2 (show Blk wr g' 2 cur from hh) (by decide) e
          have N4 := Lib.hid n4
          obtain ⟨x0, x1, x2, x3, x4⟩ := box_cells Bx
          have t3 : wr.cell? ⟨w.heap.size + 1 + 1, 4, none⟩ = some (.slice A2 P.length c2) := by rw [Bt.cell 4]; rfl
          have hlx := Bx.lt
          have hlr := Br.lt
          have hlt' := Bt.lt
          have hi0 : (0 : Int) ≤ (j : Int) := by omega
          have hi1 : (j : Int) < (ts.length : Int) := by omega
          have HBx := Lib.hid Bx
          have HBr := Lib.hid Br
          have HBt := Lib.hid Bt
          have HP1 := Lib.hid P1
          have hbw : b < wr.heap.size := by omega
          have hbt : w.heap.size + 1 + 1 ≠ b := by omega
          have hby : (P.length + 1) * 16 ≤ 140737488355328 := by omega
          have HPl := Lib.hid hPl
          clear x0 x1 x2 x3 hc hy hP hPl hlo Bx Br Bt hst P1 n4
          have x4' := x4
          go_wp2_with fail
          go_region_law ((refine step_append_elem _ (by rfl) _ _ _ (by rfl) w.heap.size 9 j0 _ 16 Tryz.underlying40 hj0 hy0 hy1 hy2 rfl (.slice A2 P.length c2) P (by rfl) ((O1.alloc _).drewN 1) y (svl_ok y) wr.heap.size (by rfl) (heap_alloc_new wr _) hby (by omega) (by simp; omega) ?_; intro gg cap w1 hown1 hgrow hat hltg; have Bt1 := Blk.grown ((HBt.out.alloc _).drewN 1) hgrow (Ne.symm n1); have u3 : w1.cell? ⟨w.heap.size + 1 + 1, 4, none⟩ = some (.slice A2 P.length c2) := (by rw [Bt1.cell 4]; rfl); have f3 := Bt1.frozen 4))
          all_goals
            have Bx1 := Blk.grown ((HBx.out.alloc (.cells #[.string y] 9)).drewN 1) hgrow (Ne.symm n2)
            have Br1 := Blk.grown ((HBr.out.alloc (.cells #[.string y] 9)).drewN 1) hgrow (Ne.symm n3)
            have n5 : gg ≠ w.heap.size + 1 + 1 := fun e => own_blk_ne hown1.2 Bt1 (by decide) (by rw [← e]; rfl)
            have hb1 : Below w.heap.size w w1 := (below_drewN (hb.alloc hb.size _) 1).grown hgrow (by simp; omega) fun k hk => (Hlo.out k hk).1
            have P2 : OL ivl w1 w.heap.size 2 (.slice A1 ns.length c1) ns := OL.keep ((HP1.out.alloc (.cells #[.string y] 9)).drewN 1) fun g hg => hgrow.block g (by have := (HP1.out.2.lt g hg).2; simp; omega) (Ne.symm (N4.out g hg))
            have n6 : ∀ g, (Value.slice A1 ns.length c1).ownBlock = some g → g ≠ w.heap.size + 1 + 1 := fun g hg e => own_blk_ne P2.2 Bt1 (by decide) (by rw [← e]; exact hg)
            go_wp2
            go_roundw
            case rel =>
              refine ⟨j + 1, .slice (some ⟨gg, 0, none⟩) (P.length + 1) cap, by omega, by go_num, Bx1.far (by simp; omega) _, Br1.far (by simp) _, ?_, P2.keep fun g hg => Below.heap_setCell _ _ _ _ (n6 g hg), ?_, hb1.setCell (by simp; omega) _⟩
              · have := Bt1.set_ 4 (.slice (some ⟨gg, 0, none⟩) (P.length + 1) cap)
                simpa using this
              · rw [Hst.out]
                exact hown1.keep fun g hg => Below.heap_setCell _ _ _ _ (by
                  simp only [Value.ownBlock, Option.some.injEq] at hg
                  rw [← hg]; exact n5)
            case measure => simp [intOf]; omega
        · obtain rfl : j = ts.length := by omega
          rw [List.take_length] at O1
          obtain ⟨A2, c2, rfl, -, -, -, -⟩ := O1.form
          have m1 : (Value.slice A1 ns.length c1).ownBlock ≠ some (w.heap.size + 1) := own_blk_ne P1.2 Br (by decide)
          have m2 : (Value.slice A2 ts.length c2).ownBlock ≠ some (w.heap.size + 1) := own_blk_ne O1.2 Br (by decide)
          have t0 : wr.cell? ⟨w.heap.size + 1 + 1, 0, none⟩ = some (.int .i64 k) := by rw [Bt.cell 0]; rfl
          have t1 : wr.cell? ⟨w.heap.size + 1 + 1, 1, none⟩ = some (.int .i64 n) := by rw [Bt.cell 1]; rfl
          have t2 : wr.cell? ⟨w.heap.size + 1 + 1, 2, none⟩ = some (.string s) := by rw [Bt.cell 2]; rfl
          have t3 : wr.cell? ⟨w.heap.size + 1 + 1, 3, none⟩ = some (.slice A1 ns.length c1) := by rw [Bt.cell 3]; rfl
          have t4 : wr.cell? ⟨w.heap.size + 1 + 1, 4, none⟩ = some (.slice A2 ts.length c2) := by rw [Bt.cell 4]; rfl
          obtain ⟨x0, x1, x2, x3, x4⟩ := box_cells Bx
          obtain ⟨y0, y1, y2, y3, y4⟩ := box_cells Br
          have f0 := Br.frozen 0
          have f1 := Br.frozen 1
          have f2 := Br.frozen 2
          have f3 := Br.frozen 3
          have f4 := Br.frozen 4
          have hlr := Br.lt
          go_wp2
          refine bodyPost_ret (v := .agg #[.int .i64 k, .int .i64 n, .string s, .slice A1 ns.length c1, .slice A2 ts.length c2]) (by simp [results, Tryz.results16, go_sem, *]) rfl ?_
          exact ⟨A1, c1, A2, c2, rfl, P1.set5 m1 _ _ _ _ _, O1.set5 m2 _ _ _ _ _, set5_below hb (by omega)⟩

theorem refCopy_any (v : Vv) (x : Value) (B : Nat) (w : World) (h : VR w B v x) (hB : B ≤ w.heap.size) :
    Calls Tryz.prog 16 #[x] w (NewV v w) := by
  have hv := h.ok
  refine (refCopy_own v x B w h hB).mono ?_
  rintro e w' ⟨A, c, A', c', rfl, h1, h2, hb⟩
  exact ⟨_, rfl, ⟨A, c, A', c', rfl, own_form h1, own_form h2, hv⟩, hb⟩

end Go.Proofs.YtgpahglmhnnobaaGreatDoor
