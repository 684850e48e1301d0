/- SameNode of the document, copyNode of the law. Written by mkrdrefn.py. -/
import Derived.Test.YtmiiogailnjfpaaRdNodTG
import Derived.Test.YtmiiogailnjfpaaRdSameRel
import Derived.Test.YtmiiogailnjfpaaRcRefNA
import Derived.Test.YtmiiogailnjfpaaApList
namespace Go.Proofs.Ytmiiogailnjfpaa
open Go.RowKit
set_option linter.unusedVariables false

set_option maxRecDepth 100000 in
set_option maxHeartbeats 4000000 in
theorem sameNodT_yes (x : NodC) (A A' A2 A2' : Option Addr) (c c' c2 c2' B B' B2 B2' n m : Nat) (L : List Int) (L2 : List Nat) (w : World) (hn : L.length = n) (hnm : n ≤ maxLen) (hm : L2.length = m) (hr : RL ivl w B A L) (hB : B ≤ w.heap.size) (hr' : RL ivl w B' A' L) (hB' : B' ≤ w.heap.size) (hr2 : RB w B2 A2 L2) (hB2 : B2 ≤ w.heap.size) (hr2' : RB w B2' A2' L2) (hB2' : B2' ≤ w.heap.size) :
    Calls Try.prog 16 #[.agg #[.bool x.d, .int .i64 x.f, .int .i64 x.o, .slice A n c, .slice A2 m c2], .agg #[.bool x.d, .int .i64 x.f, .int .i64 x.o, .slice A' n c', .slice A2' m c2']] w fun e w' => e = .returned (.bool true) ∧ Below w.heap.size w w' := by
  have h0 := ((St.start Zf w).newBlk 26 #[.bool x.d, .int .i64 x.f, .int .i64 x.o, .slice A n c, .slice A2 m c2]).newBlk 26 #[.bool x.d, .int .i64 x.f, .int .i64 x.o, .slice A' n c', .slice A2' m c2']
  have e0 : (w.alloc (.cells #[.bool x.d, .int .i64 x.f, .int .i64 x.o, .slice A n c, .slice A2 m c2] 26)).heap.size = w.heap.size + 1 := by simp
  rw [e0] at h0
  obtain ⟨wo, hwo⟩ : ∃ wo, wo = (w.alloc (.cells #[.bool x.d, .int .i64 x.f, .int .i64 x.o, .slice A n c, .slice A2 m c2] 26)).alloc (.cells #[.bool x.d, .int .i64 x.f, .int .i64 x.o, .slice A' n c', .slice A2' m c2'] 26) := ⟨_, rfl⟩
  rw [← hwo] at h0
  have hs := SameInts_any A A' c c' B B' L L wo (h0.rl hr hB) (h0.rl hr' hB') (by omega) (by omega)
  rw [decide_eq_true rfl, hn] at hs
  have HS := Lib.hid hs
  have HQ := Lib.hid (fun (W : World) (h : St Zf [BlkA (w.heap.size + 1) 26 #[.bool x.d, .int .i64 x.f, .int .i64 x.o, .slice A' n c', .slice A2' m c2'], BlkA w.heap.size 26 #[.bool x.d, .int .i64 x.f, .int .i64 x.o, .slice A n c, .slice A2 m c2]] w W) => (⟨bytes_str_n c2 m hm (h.rb hr2 hB2), bytes_str_n c2' m hm (h.rb hr2' hB2'), cellsnodT h, cellsnodT h.swap⟩ : _ ∧ _ ∧ _ ∧ _))
  have er : (x.f == x.f) = true := by simp
  have ep : (x.o == x.o) = true := by simp
  have ed : (x.d == x.d) = true := by simp
  obtain ⟨-, -, ⟨d0, d1, d2, d3, d4⟩, ⟨c0, c1, c2', c3, c4⟩⟩ := HQ.out wo h0
  have H0 := Lib.hid h0
  have Hwo := Lib.hid hwo
  clear h0 hwo e0 hr hr2 hr' hr2' hn hm hs hnm
  go_enter Try.func16, Try.ntmps16
  go_upto_region 1 with fail
  rw [← Hwo.out]
  go_wp2_with (go_at_call 37; refine (HS.out).mono ?_; rintro e w1 ⟨rfl, n1, hw1⟩; have h1 := H0.out.drewN n1; rw [← hw1] at h1; obtain ⟨q1, q2, ⟨d0, d1, d2, d3, d4⟩, ⟨c0, c1, c2, c3, c4⟩⟩ := HQ.out w1 h1; have H1 := Lib.hid h1; clear h1 hw1)
  go_ret
  exact ⟨rfl, H1.out.bel⟩

set_option maxRecDepth 100000 in
set_option maxHeartbeats 4000000 in
theorem copyNodT_any (x : NodC) (A : Option Addr) (c B : Nat) (L : List Int) (A2 : Option Addr) (c2 B2 : Nat) (L2 : List Nat) (w : World) (hr : RL ivl w B A L) (hB : B ≤ w.heap.size) (hl : L.length * 8 ≤ 140737488351232) (hr2 : RB w B2 A2 L2) (hB2 : B2 ≤ w.heap.size) (hl2 : L2.length ≤ 140737488355328) :
    Calls Try.prog 12 #[.agg #[.bool x.d, .int .i64 x.f, .int .i64 x.o, .slice A L.length c, .slice A2 L2.length c2]] w fun e w' => ∃ a d a2 d2, e = .returned (.agg #[.bool x.d, .int .i64 x.f, .int .i64 x.o, .slice a L.length d, .slice a2 L2.length d2]) ∧ L.length ≤ d ∧ d ≤ maxLen ∧ St Zf [ObA 5 (.slice a2 L2.length d2) L2, OlA ivl 3 (.slice a L.length d) L] w w' := by
  have h0 := ((St.start Zf w).newBlk 26 #[.bool x.d, .int .i64 x.f, .int .i64 x.o, .slice A L.length c, .slice A2 L2.length c2]).newBlk 26 #[.bool false, .int .i64 0, .int .i64 0, .slice none 0 0, .slice none 0 0]
  have e0 : (w.alloc (.cells #[.bool x.d, .int .i64 x.f, .int .i64 x.o, .slice A L.length c, .slice A2 L2.length c2] 26)).heap.size = w.heap.size + 1 := by simp
  rw [e0] at h0
  obtain ⟨wo, hwo⟩ : ∃ wo, wo = (w.alloc (.cells #[.bool x.d, .int .i64 x.f, .int .i64 x.o, .slice A L.length c, .slice A2 L2.length c2] 26)).alloc (.cells #[.bool false, .int .i64 0, .int .i64 0, .slice none 0 0, .slice none 0 0] 26) := ⟨_, rfl⟩
  rw [← hwo] at h0
  have hi5 : (Try.prog.info? 26).map (·.size) = some 5 := by kernel_rfl
  obtain ⟨j0, hj, hy0, hy1, hy2⟩ : ∃ j, Try.prog.info? 3 = some j ∧ j.zero = some (.int .i64 0) ∧ j.size = 1 ∧ j.bytes = 8 := ⟨_, rfl, by kernel_rfl, by kernel_rfl, by kernel_rfl⟩
  have h1 := h0.newNil ivl 3 (n := wo.heap.size) rfl
  have hr1 := h1.rl hr hB
  have HCL := Lib.hid (fun (W : World) (l : List Ass) (h : St Zf l w W) => clone_any A2 c2 B2 L2 W (h.rb hr2 hB2) (by have := h.size; omega) hl2)
  have k3 : (wo.alloc (.cells #[] 3)).cell? ⟨w.heap.size, 3, none⟩ = some (.slice A L.length c) := (cellsnodT h1.bring2).2.2.2.1
  have hby : (([] : List Int).length + L.length) * 8 ≤ 140737488355328 := by simp; omega
  have Hwo := Lib.hid hwo
  have H1 := Lib.hid h1
  have HL := Lib.hid hl
  have HBY := Lib.hid hby
  clear h0 hwo e0 hr hr2 hl hl2 h1 hby
  go_enter Try.func12, Try.ntmps12
  go_upto_region 1 with fail
  rw [← Hwo.out]
  go_upto_region 2 with (at_builtin; refine wpList_append_list _ rfl _ _ 23 rfl 0 3 j0 _ 8 Try.underlying23 hj hy0 hy1 hy2 rfl _ [] (by rfl) H1.out.ol A c w.heap.size L L.length rfl (by rfl) (hr1.more (by omega)) HBY.out (by omega) (Nat.zero_le _) ?_; intro v5 w5 hown hgr hat; have h5 := H1.out.grewOl hown hgr hat (Nat.le_refl _); rw [List.nil_append] at h5; obtain ⟨a, d, rfl, hl5, hm5, -, -⟩ := h5.ol.form; have k3 := (cellsnodT h5.bring2).2.2.2.1; have f3 := h5.bring2.blk.frozen 3; have h6 := h5.bring2.setBlk 3 (.slice a L.length d); simp only [List.setIfInBounds_toArray, List.set_cons_zero, List.set_cons_succ] at h6; have H6 := Lib.hid h6; have HLD := Lib.hid hl5; have HMD := Lib.hid hm5; clear h5 h6 hown hgr hat hl5 hm5)
  obtain ⟨w6, hw6⟩ : ∃ x, x = w5.setCell ⟨w.heap.size, 3, none⟩ (.slice a L.length d) := ⟨_, rfl⟩
  rw [← hw6] at H6 ⊢
  have k4 := (cellsnodT H6.out).2.2.2.2
  have HC6 := Lib.hid (HCL.out w6 _ H6.out)
  clear hw6 k3 f3 hr1
  go_upto_region 3 with (go_at_call 18; refine (HC6.out).mono ?_; rintro e w7 ⟨v, rfl, ho, hb⟩; have h7 := H6.out.newOb ho hb; obtain ⟨a2, d2, rfl, -, -, -, -⟩ := ho.form; have k5 := (cellsnodT h7.swap).2.2.2.2; have f5 := h7.swap.blk.frozen 4; have h8 := h7.swap.setBlk 4 (.slice a2 L2.length d2); simp only [List.setIfInBounds_toArray, List.set_cons_zero, List.set_cons_succ] at h8; have H8 := Lib.hid h8; clear h7 h8 ho hb)
  obtain ⟨w8, hw8⟩ : ∃ x, x = w7.setCell ⟨w.heap.size, 4, none⟩ (.slice a2 L2.length d2) := ⟨_, rfl⟩
  rw [← hw8] at H8 ⊢
  have r3 := H8.out.blk
  have r4 := H8.out.bring3.blk
  have H9 := Lib.hid (H8.out.bring3.setRow #[.bool x.d, .int .i64 x.f, .int .i64 x.o, .slice a L.length d, .slice a2 L2.length d2])
  clear hw8 k4 k5 f5
  go_wp2_with (first
    | (refine wpList_load_row rfl 26 _ rfl w.heap.size rfl 26 #[.bool x.d, .int .i64 x.f, .int .i64 x.o, .slice a L.length d, .slice a2 L2.length d2] (0, 0) _ r3 Try.underlying26 rfl hi5 ?_)
    | (refine wpList_store_row rfl 26 _ _ rfl (w.heap.size + 1) #[.bool x.d, .int .i64 x.f, .int .i64 x.o, .slice a L.length d, .slice a2 L2.length d2] rfl rfl 26 #[.bool false, .int .i64 0, .int .i64 0, .slice none 0 0, .slice none 0 0] r4 hi5 rfl (by rw [← Array.all_toList]; rfl) ?_))
  refine bodyPost_ret (results_cell_row rfl _ _ (w.heap.size + 1) 26 #[.bool x.d, .int .i64 x.f, .int .i64 x.o, .slice a L.length d, .slice a2 L2.length d2] (0, 0) _ rfl H9.out.blk Try.underlying26 rfl hi5) rfl ?_
  exact ⟨a, d, a2, d2, rfl, HLD.out, HMD.out, H9.out.drop.drop⟩
end Go.Proofs.Ytmiiogailnjfpaa
