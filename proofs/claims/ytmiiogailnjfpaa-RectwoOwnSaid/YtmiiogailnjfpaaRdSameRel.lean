/- SameRel of the document, copyRel of the law. Written by mkrdsame.py. -/
import Derived.Test.YtmiiogailnjfpaaRdRelTG
import Derived.Test.YtmiiogailnjfpaaRcPureA
import Derived.Test.YtmiiogailnjfpaaStr
import Derived.Laws.StructEq
import Derived.Laws.ResultCell
namespace Go.Proofs.Ytmiiogailnjfpaa
open Go.RowKit
set_option linter.unusedVariables false

theorem bytes_str_n {w : World} {B : Nat} {A : Option Addr} {bs : List Nat} (c n : Nat) (hn : bs.length = n) (h : RB w B A bs) : (convert 24 9 (.slice A n c)).run Try.prog w = .ok (.string (strOf bs)) w := by
  subst hn
  exact run_bytes_str w 24 9 5 c Try.underlying24 Try.underlying5 Try.underlying9 h
set_option maxRecDepth 100000 in
set_option maxHeartbeats 2000000 in
theorem link_eql (x : RelC) (w : World) : (binOp .eql 43 (.agg #[.bool x.lv, .int .i64 x.fr, .int .i64 x.to, .int .i64 x.fp, .int .i64 x.tp, .int .i64 x.fn, .int .i64 x.tn]) (.agg #[.bool x.lv, .int .i64 x.fr, .int .i64 x.to, .int .i64 x.fp, .int .i64 x.tp, .int .i64 x.fn, .int .i64 x.tn])).run Try.prog w = .ok (.bool true) w := by
  go_simp
set_option maxRecDepth 100000 in
set_option maxHeartbeats 4000000 in
theorem sameRelT_yes (x : RelC) (A A2 : Option Addr) (cap cap2 B B2 n : Nat) (L : List Nat) (w : World) (hn : L.length = n) (hr : RB w B A L) (hB : B ≤ w.heap.size) (hr2 : RB w B2 A2 L) (hB2 : B2 ≤ w.heap.size) :
    Calls Try.prog 24 #[.agg #[.bool x.lv, .int .i64 x.fr, .int .i64 x.to, .int .i64 x.fp, .int .i64 x.tp, .int .i64 x.fn, .int .i64 x.tn, .int .i64 x.ty, .int .i64 x.pr, .slice A n cap], .agg #[.bool x.lv, .int .i64 x.fr, .int .i64 x.to, .int .i64 x.fp, .int .i64 x.tp, .int .i64 x.fn, .int .i64 x.tn, .int .i64 x.ty, .int .i64 x.pr, .slice A2 n cap2]] w fun e w' => e = .returned (.bool true) ∧ Below w.heap.size w w' := by
  have h0 := ((St.start Zf w).newBlk 45 #[.bool x.lv, .int .i64 x.fr, .int .i64 x.to, .int .i64 x.fp, .int .i64 x.tp, .int .i64 x.fn, .int .i64 x.tn, .int .i64 x.ty, .int .i64 x.pr, .slice A n cap]).newBlk 45 #[.bool x.lv, .int .i64 x.fr, .int .i64 x.to, .int .i64 x.fp, .int .i64 x.tp, .int .i64 x.fn, .int .i64 x.tn, .int .i64 x.ty, .int .i64 x.pr, .slice A2 n cap2]
  have e0 : (w.alloc (.cells #[.bool x.lv, .int .i64 x.fr, .int .i64 x.to, .int .i64 x.fp, .int .i64 x.tp, .int .i64 x.fn, .int .i64 x.tn, .int .i64 x.ty, .int .i64 x.pr, .slice A n cap] 45)).heap.size = w.heap.size + 1 := by simp
  rw [e0] at h0
  obtain ⟨wo, hwo⟩ : ∃ wo, wo = (w.alloc (.cells #[.bool x.lv, .int .i64 x.fr, .int .i64 x.to, .int .i64 x.fp, .int .i64 x.tp, .int .i64 x.fn, .int .i64 x.tn, .int .i64 x.ty, .int .i64 x.pr, .slice A n cap] 45)).alloc (.cells #[.bool x.lv, .int .i64 x.fr, .int .i64 x.to, .int .i64 x.fp, .int .i64 x.tp, .int .i64 x.fn, .int .i64 x.tn, .int .i64 x.ty, .int .i64 x.pr, .slice A2 n cap2] 45) := ⟨_, rfl⟩
  rw [← hwo] at h0
  have q1 := bytes_str_n cap n hn (h0.rb hr hB)
  have q2 := bytes_str_n cap2 n hn (h0.rb hr2 hB2)
  have HEQ := link_eql x wo
  obtain ⟨d0, d1, d2, d3, d4, d5, d6, d7, d8, d9⟩ := cellsrelT h0
  obtain ⟨c0, c1, c2, c3, c4, c5, c6, c7, c8, c9⟩ := cellsrelT h0.swap
  have H0 := Lib.hid h0
  have Hwo := Lib.hid hwo
  clear h0 hwo e0 hr hr2 hn
  go_enter Try.func24, Try.ntmps24
  go_upto_region 1 with fail
  rw [← Hwo.out]
  go_wp2
  go_ret
  exact ⟨rfl, H0.out.bel⟩

set_option maxRecDepth 100000 in
set_option maxHeartbeats 4000000 in
theorem copyRelT_any (x : RelC) (A : Option Addr) (cap B : Nat) (L : List Nat) (w : World) (hr : RB w B A L) (hB : B ≤ w.heap.size) (hl : L.length ≤ 140737488355328) :
    Calls Try.prog 21 #[.agg #[.bool x.lv, .int .i64 x.fr, .int .i64 x.to, .int .i64 x.fp, .int .i64 x.tp, .int .i64 x.fn, .int .i64 x.tn, .int .i64 x.ty, .int .i64 x.pr, .slice A L.length cap]] w fun e w' => ∃ a d, e = .returned (.agg #[.bool x.lv, .int .i64 x.fr, .int .i64 x.to, .int .i64 x.fp, .int .i64 x.tp, .int .i64 x.fn, .int .i64 x.tn, .int .i64 x.ty, .int .i64 x.pr, .slice a L.length d]) ∧ St Zf [ObA 5 (.slice a L.length d) L] w w' := by
  have h0 := ((St.start Zf w).newBlk 45 #[.bool x.lv, .int .i64 x.fr, .int .i64 x.to, .int .i64 x.fp, .int .i64 x.tp, .int .i64 x.fn, .int .i64 x.tn, .int .i64 x.ty, .int .i64 x.pr, .slice A L.length cap]).newBlk 45 #[.bool false, .int .i64 0, .int .i64 0, .int .i64 0, .int .i64 0, .int .i64 0, .int .i64 0, .int .i64 0, .int .i64 0, .slice none 0 0]
  have e0 : (w.alloc (.cells #[.bool x.lv, .int .i64 x.fr, .int .i64 x.to, .int .i64 x.fp, .int .i64 x.tp, .int .i64 x.fn, .int .i64 x.tn, .int .i64 x.ty, .int .i64 x.pr, .slice A L.length cap] 45)).heap.size = w.heap.size + 1 := by simp
  rw [e0] at h0
  obtain ⟨wo, hwo⟩ : ∃ wo, wo = (w.alloc (.cells #[.bool x.lv, .int .i64 x.fr, .int .i64 x.to, .int .i64 x.fp, .int .i64 x.tp, .int .i64 x.fn, .int .i64 x.tn, .int .i64 x.ty, .int .i64 x.pr, .slice A L.length cap] 45)).alloc (.cells #[.bool false, .int .i64 0, .int .i64 0, .int .i64 0, .int .i64 0, .int .i64 0, .int .i64 0, .int .i64 0, .int .i64 0, .slice none 0 0] 45) := ⟨_, rfl⟩
  rw [← hwo] at h0
  have hi10 : (Try.prog.info? 45).map (·.size) = some 10 := by kernel_rfl
  have HC := Lib.hid (clone_any A cap B L wo (h0.rb hr hB) (by have := h0.size; omega) hl)
  obtain ⟨c0, c1, c2, c3, c4, c5, c6, c7, c8, c9⟩ := cellsrelT h0.swap
  have H0 := Lib.hid h0
  have Hwo := Lib.hid hwo
  clear h0 hwo e0 hr hl
  go_enter Try.func21, Try.ntmps21
  go_upto_region 1 with fail
  rw [← Hwo.out]
  go_upto_region 2 with (go_at_call 18; refine (HC.out).mono ?_; rintro e w2 ⟨v, rfl, ho, hb⟩; have h2 := H0.out.newOb ho hb; obtain ⟨a, d, rfl, -, -, -, -⟩ := ho.form; have k9 := h2.bring2.blk.cell 9; have f9 := h2.bring2.blk.frozen 9; have k9 : w2.cell? ⟨w.heap.size, 9, none⟩ = some (.slice A L.length cap) := (by rw [k9]; rfl); have h3 := h2.bring2.setBlk 9 (.slice a L.length d); simp only [List.setIfInBounds_toArray, List.set_cons_zero, List.set_cons_succ] at h3; have H3 := Lib.hid h3; clear h2 h3 ho hb c0 c1 c2 c3 c4 c5 c6 c7 c8 c9)
  obtain ⟨w3, hw3⟩ : ∃ w3, w3 = w2.setCell ⟨w.heap.size, 9, none⟩ (.slice a L.length d) := ⟨_, rfl⟩
  rw [← hw3] at H3 ⊢
  have r3 := H3.out.blk
  have r4 := H3.out.bring2.blk
  have H5 := Lib.hid (H3.out.bring2.setRow #[.bool x.lv, .int .i64 x.fr, .int .i64 x.to, .int .i64 x.fp, .int .i64 x.tp, .int .i64 x.fn, .int .i64 x.tn, .int .i64 x.ty, .int .i64 x.pr, .slice a L.length d])
  clear hw3 k9 f9
  go_wp2_with (first
    | (refine wpList_load_row rfl 45 _ rfl w.heap.size rfl 45 #[.bool x.lv, .int .i64 x.fr, .int .i64 x.to, .int .i64 x.fp, .int .i64 x.tp, .int .i64 x.fn, .int .i64 x.tn, .int .i64 x.ty, .int .i64 x.pr, .slice a L.length d] (0, 0) _ r3 Try.underlying45 rfl hi10 ?_)
    | (refine wpList_store_row rfl 45 _ _ rfl (w.heap.size + 1) #[.bool x.lv, .int .i64 x.fr, .int .i64 x.to, .int .i64 x.fp, .int .i64 x.tp, .int .i64 x.fn, .int .i64 x.tn, .int .i64 x.ty, .int .i64 x.pr, .slice a L.length d] rfl rfl 45 #[.bool false, .int .i64 0, .int .i64 0, .int .i64 0, .int .i64 0, .int .i64 0, .int .i64 0, .int .i64 0, .int .i64 0, .slice none 0 0] r4 hi10 rfl (by rw [← Array.all_toList]; rfl) ?_))
  refine bodyPost_ret (results_cell_row rfl _ _ (w.heap.size + 1) 45 #[.bool x.lv, .int .i64 x.fr, .int .i64 x.to, .int .i64 x.fp, .int .i64 x.tp, .int .i64 x.fn, .int .i64 x.tn, .int .i64 x.ty, .int .i64 x.pr, .slice a L.length d] (0, 0) _ rfl H5.out.blk Try.underlying45 rfl hi10) rfl ?_
  exact ⟨a, d, rfl, H5.out.drop.drop⟩
end Go.Proofs.Ytmiiogailnjfpaa
