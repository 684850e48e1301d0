/- Records are told in new memory. -/
import Derived.Test.YtmiiogailnjfpaaOpen
import Derived.Test.YtmiiogailnjfpaaRows
import Derived.Test.YtmiiogailnjfpaaRdSpeak
import Derived.Test.YtmiiogailnjfpaaRdOwn
import Derived.Test.YtmiiogailnjfpaaRdRefNodT
import Derived.Test.YtmiiogailnjfpaaRdSameNod
import Derived.Test.YtmiiogailnjfpaaRdSameRel
import Derived.Test.YtmiiogailnjfpaaRdOpen
import Derived.Laws.StructEq
import Derived.Deep.QuietTactic
import Derived.BigQuiet
import Derived.Deep.RegionHeld3
import Derived.Deep.Cut
namespace Go.Proofs.Ytmiiogailnjfpaa.rectwoOwn
open Go.ChangeShapes Go.WideShapes Go.ChangeAt Go.RowKit
open Go.ChangeMaps (open_string shut_string)
set_option linter.unusedVariables false

theorem own_int : (Try.prog.info? 3).map (fun i => (i.zero, i.size, i.bytes)) = some (some (.int .i64 0), 1, 8) := by kernel_rfl
set_option maxRecDepth 100000 in
set_option maxHeartbeats 8000000 in
theorem walk (w : World) {x : NodC} {A : Option Addr} {L : List Int} {c : Nat} {A2 : Option Addr} {L2 : List Nat} {c2 : Nat} {y : RelC} {A3 : Option Addr} {L3 : List Nat} {c3 : Nat} (hx : (isI x.f ∧ isI x.o ∧ ∀ y ∈ L, isI y) ∧ (RL ivl w w.heap.size A L ∧ L.length ≤ c ∧ c * 8 ≤ 140737488351232) ∧ RB w w.heap.size A2 L2 ∧ L2.length ≤ c2 ∧ c2 ≤ 140737488351232) (hy : RelI y ∧ RB w w.heap.size A3 L3 ∧ L3.length ≤ c3 ∧ c3 ≤ 140737488351232) : Calls Try.prog 10 #[.agg #[.bool x.d, .int .i64 x.f, .int .i64 x.o, .slice A L.length c, .slice A2 L2.length c2], .agg #[.bool y.lv, .int .i64 y.fr, .int .i64 y.to, .int .i64 y.fp, .int .i64 y.tp, .int .i64 y.fn, .int .i64 y.tn, .int .i64 y.ty, .int .i64 y.pr, .slice A3 L3.length c3]] w fun e w' => e = .returned (.bool true) ∧ Below w.heap.size w w' := by
  obtain ⟨⟨hf, ho, hLi⟩, ⟨hrl, hc, hcm⟩, hrb, hc2, hcm2⟩ := hx
  obtain ⟨hyi, hrb3, hc3, hcm3⟩ := hy
  obtain ⟨i0, hi0, hz0, hz1, hz2⟩ := info_parts u8_info
  obtain ⟨j0, hj, hy0, hy1, hy2⟩ := info_parts own_int
  have hcmx : c ≤ maxLen := by unfold maxLen; omega
  have HS := Lib.hid (fun (W : World) (l : List Ass) (hs : St Zf l w W) => (⟨hs.rl hrl (Nat.le_refl _), hs.rb hrb (Nat.le_refl _), hs.rb hrb3 (Nat.le_refl _), hs.size⟩ : RL ivl W w.heap.size A L ∧ RB W w.heap.size A2 L2 ∧ RB W w.heap.size A3 L3 ∧ w.heap.size ≤ W.heap.size))
  have HRN := fun (W : World) (l : List Ass) (hW : St Zf l w W) => refPutNodT_any x A c w.heap.size L A2 c2 w.heap.size L2 W (hW.rl hrl (Nat.le_refl _)) hW.size hc hcmx (hW.rb hrb (Nat.le_refl _)) hW.size
  have HRR := fun (W : World) (l : List Ass) (hW : St Zf l w W) => refPutRelT_any y A3 c3 w.heap.size L3 W (hW.rb hrb3 (Nat.le_refl _)) hW.size
  unfold RefPut at HRN HRR
  obtain ⟨okn, hokn⟩ : ∃ ok, ok = refNodTok x L L2 := ⟨_, rfl⟩
  obtain ⟨okr, hokr⟩ : ∃ ok, ok = relTok y L3 := ⟨_, rfl⟩
  obtain ⟨bn, hbn⟩ : ∃ b, b = (if okn = true then refNodB x L ++ L2 else []) := ⟨_, rfl⟩
  obtain ⟨br, hbr⟩ : ∃ b, b = (if okr = true then refRelB y ++ L3 else []) := ⟨_, rfl⟩
  obtain ⟨ec, hec⟩ : ∃ e : Int, e = (if okn = true then 0 else 41) := ⟨_, rfl⟩
  obtain ⟨ed, hed⟩ : ∃ e : Int, e = (if okr = true then 0 else 41) := ⟨_, rfl⟩
  rw [← hokn, ← hbn, ← hec] at HRN
  rw [← hokr, ← hbr, ← hed] at HRR
  have hln : bn.length ≤ 2000 := by
    rw [hbn]
    split
    · next h => rw [hokn] at h; have h1 := refNodB_len x L; have h2 := (refNodTok_parts h).2.2.2; rw [List.length_append]; omega
    · simp
  have hlr : br.length ≤ 2000 := by
    rw [hbr]
    split
    · next h => rw [hokr] at h; have h1 := refRelB_short y; have h2 := (relTok_parts h).2; rw [List.length_append]; omega
    · simp
  have HLN := Lib.hid hln
  have HLR := Lib.hid hlr
  have HEC := Lib.hid hec
  have HED := Lib.hid hed
  have HGN : Hid (∀ (l : List Ass) (W : World) (A' : Option Addr) (cp : Nat), Stable (Sep l) → St Zf l w W → RB W W.heap.size A' bn → Calls Try.prog 17 #[.slice A' bn.length cp] W fun e w' => ∃ (d : Bool) (f o : Int) (A1 : Option Addr) (X1 : List Int) (c1 : Nat) (B1 : Option Addr) (S1 : List Nat) (e1 : Nat) (cy : Array Value) (E : Int), Hid (cy = #[.bool d, .int .i64 f, .int .i64 o, .slice A1 X1.length c1, .slice B1 S1.length e1]) ∧ cy.size = 5 ∧ cy.all (·.oneCell') = true ∧ (Try.prog.info? 26).map (·.size) = some cy.size ∧ e = .returned (.tuple #[.agg cy, .int .i64 E]) ∧ X1.length ≤ 8 ∧ S1.length ≤ 48 ∧ Hid (okn = true → d = x.d ∧ f = x.f ∧ o = x.o ∧ X1 = L ∧ S1 = L2) ∧ St Zf (OlA ivl 3 (.slice A1 X1.length c1) X1 :: ObA 5 (.slice B1 S1.length e1) S1 :: l) w w') := Lib.hid fun l W A' cp hst hW hr => by
    refine (GetNodT_own A' cp _ bn W hr (Nat.le_refl _) (by omega)).mono ?_
    rintro e w' ⟨d, f, o, A1, X1, c1, B1, S1, e1, rfl, k1, k2, k3, k4⟩
    refine ⟨d, f, o, A1, X1, c1, B1, S1, e1, _, _, Lib.hid rfl, rfl, by rw [← Array.all_toList]; rfl, by kernel_rfl, rfl, k1, k2, Lib.hid fun h => ?_, addSt2 hW k4⟩
    have hb : bn = refNodB x L ++ L2 := by rw [hbn, if_pos h]
    rw [hokn] at h
    obtain ⟨g1, g2, g3, g4⟩ := getNodT_back x L L2 h
    rw [← hb] at g1 g2 g3 g4
    obtain ⟨m1, m2, m3, m4, m5⟩ := k3 g1
    rw [g2] at m1 m2 m3
    rw [g3, pl8_take L (refNodTok_parts h).2.2.1] at m4
    rw [g4] at m5
    exact ⟨m1, m2, m3, m4, m5⟩
  have HGR : Hid (∀ (l : List Ass) (W : World) (A' : Option Addr) (cp : Nat), Stable (Sep l) → St Zf l w W → RB W W.heap.size A' br → Calls Try.prog 23 #[.slice A' br.length cp] W fun e w' => ∃ (lv : Bool) (z : RelC) (B1 : Option Addr) (S1 : List Nat) (e1 : Nat) (cy : Array Value) (E : Int), Hid (cy = #[.bool lv, .int .i64 z.fr, .int .i64 z.to, .int .i64 z.fp, .int .i64 z.tp, .int .i64 z.fn, .int .i64 z.tn, .int .i64 z.ty, .int .i64 z.pr, .slice B1 S1.length e1]) ∧ cy.size = 10 ∧ cy.all (·.oneCell') = true ∧ (Try.prog.info? 45).map (·.size) = some cy.size ∧ e = .returned (.tuple #[.agg cy, .int .i64 E]) ∧ S1.length ≤ 32 ∧ Hid (okr = true → lv = true ∧ z = ⟨true, y.fr, y.to, y.fp, y.tp, y.fn, y.tn, y.ty, y.pr⟩ ∧ S1 = L3) ∧ St Zf (ObA 5 (.slice B1 S1.length e1) S1 :: l) w w') := Lib.hid fun l W A' cp hst hW hr => by
    refine (GetRelT_own A' cp _ br W hr (Nat.le_refl _) (by omega)).mono ?_
    rintro e w' ⟨lv, z, B1, S1, e1, rfl, k2, k3, k4⟩
    refine ⟨lv, z, B1, S1, e1, _, _, Lib.hid rfl, rfl, by rw [← Array.all_toList]; rfl, by kernel_rfl, rfl, k2, Lib.hid fun h => ?_, hW.addSt k4⟩
    have hb : br = refRelB y ++ L3 := by rw [hbr, if_pos h]
    rw [hokr] at h
    obtain ⟨g1, g2, g3⟩ := getRelT_back y hyi L3 h
    rw [← hb] at g1 g2 g3
    obtain ⟨m1, m2, m3⟩ := k3 g1
    rw [g2] at m2
    rw [g3] at m3
    exact ⟨m1, m2, m3⟩
  have HSN := Lib.hid (fun (a a2 : Option Addr) (d d2 : Nat) (W : World) (h1 : RL ivl W W.heap.size a L) (h2 : RB W W.heap.size a2 L2) (hp : RL ivl W w.heap.size A L ∧ RB W w.heap.size A2 L2 ∧ RB W w.heap.size A3 L3 ∧ w.heap.size ≤ W.heap.size) => sameNodT_yes x a A a2 A2 d c d2 c2 W.heap.size w.heap.size W.heap.size w.heap.size L.length L2.length L L2 W rfl (by omega) rfl h1 (Nat.le_refl _) hp.1 hp.2.2.2 h2 (Nat.le_refl _) hp.2.1 hp.2.2.2)
  have HSR := Lib.hid (fun (a : Option Addr) (d : Nat) (W : World) (h1 : RB W W.heap.size a L3) (hp : RL ivl W w.heap.size A L ∧ RB W w.heap.size A2 L2 ∧ RB W w.heap.size A3 L3 ∧ w.heap.size ≤ W.heap.size) => sameRelT_yes ⟨true, y.fr, y.to, y.fp, y.tp, y.fn, y.tn, y.ty, y.pr⟩ a A3 d c3 W.heap.size w.heap.size L3.length L3 W rfl h1 (Nat.le_refl _) hp.2.2.1 hp.2.2.2)
  obtain ⟨cxn, hcxn⟩ : ∃ cx : Array Value, cx = #[.bool x.d, .int .i64 x.f, .int .i64 x.o, .slice A L.length c, .slice A2 L2.length c2] := ⟨_, rfl⟩
  obtain ⟨cxr, hcxr⟩ : ∃ cx : Array Value, cx = #[.bool y.lv, .int .i64 y.fr, .int .i64 y.to, .int .i64 y.fp, .int .i64 y.tp, .int .i64 y.fn, .int .i64 y.tn, .int .i64 y.ty, .int .i64 y.pr, .slice A3 L3.length c3] := ⟨_, rfl⟩
  obtain ⟨czn, hczn⟩ : ∃ cz : Array Value, cz = #[.bool false, .int .i64 0, .int .i64 0, .slice none 0 0, .slice none 0 0] := ⟨_, rfl⟩
  obtain ⟨czr, hczr⟩ : ∃ cz : Array Value, cz = #[.bool false, .int .i64 0, .int .i64 0, .int .i64 0, .int .i64 0, .int .i64 0, .int .i64 0, .int .i64 0, .int .i64 0, .slice none 0 0] := ⟨_, rfl⟩
  have szn : czn.size = 5 := by rw [hczn]; rfl
  have szr : czr.size = 10 := by rw [hczr]; rfl
  have hin : (Try.prog.info? 26).map (·.size) = some cxn.size := by rw [hcxn]; kernel_rfl
  have hir : (Try.prog.info? 45).map (·.size) = some cxr.size := by rw [hcxr]; kernel_rfl
  rw [← hcxn] at HRN ⊢
  rw [← hcxr] at HRR ⊢
  have h0 := ((St.start Zf w).newBlk 26 cxn).newBlk 45 cxr
  have e0 : (w.alloc (.cells cxn 26)).heap.size = w.heap.size + 1 := by simp
  rw [e0] at h0
  obtain ⟨wo, hwo⟩ : ∃ wo, wo = (w.alloc (.cells cxn 26)).alloc (.cells cxr 45) := ⟨_, rfl⟩
  rw [← hwo] at h0
  have HCL : Hid (∀ (A' : Option Addr) (cp : Nat) (bs : List Nat) (W : World), RB W W.heap.size A' bs → bs.length ≤ 2000 → Calls Try.prog 18 #[.slice A' bs.length cp] W (NewB bs W)) := Lib.hid fun A' cp bs W h hl => clone_any A' cp _ bs W h (Nat.le_refl _) (by omega)
  have HSP := Lib.hid (speaks_any wo)
  have H0 := Lib.hid h0
  have Hwo := Lib.hid hwo
  have HRN := Lib.hid HRN
  have HRR := Lib.hid HRR
  have HCXN := Lib.hid hcxn
  have HCXR := Lib.hid hcxr
  have HCZN := Lib.hid hczn
  have HCZR := Lib.hid hczr
  clear hcxn hcxr hczn hczr h0 e0 hwo hokn hokr hbn hbr hec hed hln hlr hrl hc hcm hrb hc2 hcm2 hrb3 hc3 hcm3 hf ho hLi hyi hcmx
  go_enter Try.func10, Try.ntmps10
  go_upto_region 1 with fail
  rw [← Hwo.out]
  go_upto_region 6 with (first
    | (go_at_call 11; refine (HSP.out).mono ?_; rintro e w1 ⟨rfl, hb1⟩; have h1 := Lib.hid (H0.out.below hb1); have r1 := h1.out.swap.blk; have HRN1 := Lib.hid (HRN.out w1 _ h1.out); clear hb1)
    | (refine wpList_load_row rfl 26 _ rfl w.heap.size rfl 26 cxn (0, 0) _ r1 Try.underlying26 rfl hin ?_)
    | (go_at_call 14; refine (HRN1.out).mono ?_; rintro e w2 ⟨v2, rfl, ho2, hb2⟩; have h2 := Lib.hid (h1.out.newOb ho2 hb2); obtain ⟨Ab, mb, rfl, -, -, -, -⟩ := ho2.form; have r2 := h2.out.swap.blk; have HRR2 := Lib.hid (HRR.out w2 _ h2.out); clear ho2 hb2 r1)
    | (refine wpList_load_row rfl 45 _ rfl (w.heap.size + 1) rfl 45 cxr (0, 0) _ r2 Try.underlying45 rfl hir ?_)
    | (go_at_call 22; refine (HRR2.out).mono ?_; rintro e w3 ⟨v3, rfl, ho3, hb3⟩; have h3 := Lib.hid (h2.out.newOb ho3 hb3); obtain ⟨Ac, mc, rfl, -, -, -, -⟩ := ho3.form; have HC3 := Lib.hid (HCL.out Ab mb bn w3 h3.out.swap.ob.reads.2.1 HLN.out); clear ho3 hb3 r2)
    | (go_at_call 18; (with_reducible refine (HC3.out).mono ?_); rintro e w4 ⟨v4, rfl, ho4, hb4⟩; have h4 := Lib.hid (h3.out.newOb ho4 hb4); obtain ⟨Ai, mi, rfl, -, -, -, -⟩ := ho4.form; have HC4 := Lib.hid (HCL.out Ac mc br w4 h4.out.swap.ob.reads.2.1 HLR.out); clear ho4 hb4)
    | (go_at_call 18; (with_reducible refine (HC4.out).mono ?_); rintro e w5 ⟨v5, rfl, ho5, hb5⟩; have h5 := Lib.hid (h4.out.newOb ho5 hb5); obtain ⟨Aw, mw, rfl, -, -, hrw, -⟩ := ho5.form; have HG5 := Lib.hid (HGN.out _ w5 Ai mi inferInstance h5.out h5.out.swap.ob.reads.2.1); clear ho5 hb5 hrw))
  clear h1 h2 h3 h4 HSP H0
  go_upto_region 7 with (first
    | (go_at_call 17; refine (HG5.out).mono ?_; rintro e w6 ⟨d6, f6, o6, A60, X6, c60, B6, S6, e6, cy6, E6, Hcy6, sy6, oy6, iy6, rfl, hX6, hS6, HQ6, h6a⟩; have h6b := h6a.newBlk 26 czn; have r6 := h6b.blk; have h6c := Lib.hid (h6b.setRow cy6); clear h6a h6b)
    | (rw [← HCZN.out]; refine wpList_store_row rfl 26 _ _ rfl w6.heap.size cy6 rfl rfl 26 czn r6 iy6 (by rw [szn, sy6]) oy6 ?_))
  obtain ⟨g6, hg6⟩ : ∃ n, n = w6.heap.size := ⟨_, rfl⟩
  obtain ⟨v6, hv6⟩ : ∃ W, W = (w6.alloc (.cells czn 26)).setRow w6.heap.size cy6 := ⟨_, rfl⟩
  rw [← hv6] at h6c ⊢
  rw [← hg6] at h6c ⊢
  clear hg6 hv6 r6 HG5
  have HG6 := Lib.hid (HGN.out _ v6 Ai mi inferInstance h6c.out h6c.out.bring4.ob.reads.2.1)
  go_upto_region 8 with (first
    | (go_at_call 17; refine (HG6.out).mono ?_; rintro e w7 ⟨d7, f7, o7, A70, X7, c70, B7, S7, e7, cy7, E7, Hcy7, sy7, oy7, iy7, rfl, hX7, hS7, HQ7, h7a⟩; have h7b := h7a.newBlk 26 czn; have r7 := h7b.blk; have h7c := Lib.hid (h7b.setRow cy7); clear h7a h7b)
    | (rw [← HCZN.out]; refine wpList_store_row rfl 26 _ _ rfl w7.heap.size cy7 rfl rfl 26 czn r7 iy7 (by rw [szn, sy7]) oy7 ?_))
  obtain ⟨g7, hg7⟩ : ∃ n, n = w7.heap.size := ⟨_, rfl⟩
  obtain ⟨v7, hv7⟩ : ∃ W, W = (w7.alloc (.cells czn 26)).setRow w7.heap.size cy7 := ⟨_, rfl⟩
  rw [← hv7] at h7c ⊢
  rw [← hg7] at h7c ⊢
  clear hg7 hv7 r7 HG6
  have h7p := St.pack (l' := [_, _, _]) h7c.out
  have HG7 := Lib.hid (HGR.out _ v7 Aw mw inferInstance h7p h7p.bring4.ob.reads.2.1)
  clear h6c h7c h5
  go_upto_region 9 with (first
    | (go_at_call 23; refine (HG7.out).mono ?_; rintro e w8 ⟨lv8, z8, B8, S8, e8, cy8, E8, Hcy8, sy8, oy8, iy8, rfl, hS8, HQ8, h8a⟩; have h8b := h8a.newBlk 45 czr; have r8 := h8b.blk; have h8c := Lib.hid (h8b.setRow cy8); clear h8a h8b)
    | (rw [← HCZR.out]; refine wpList_store_row rfl 45 _ _ rfl w8.heap.size cy8 rfl rfl 45 czr r8 iy8 (by rw [szr, sy8]) oy8 ?_))
  obtain ⟨g8, hg8⟩ : ∃ n, n = w8.heap.size := ⟨_, rfl⟩
  obtain ⟨v8, hv8⟩ : ∃ W, W = (w8.alloc (.cells czr 45)).setRow w8.heap.size cy8 := ⟨_, rfl⟩
  rw [← hv8] at h8c ⊢
  rw [← hg8] at h8c ⊢
  clear hg8 hv8 r8 HG7
  have HG8 := Lib.hid (HGR.out _ v8 Aw mw inferInstance h8c.out h8c.out.bring6.ob.reads.2.1)
  clear h7p
  go_upto_region 10 with (first
    | (go_at_call 23; refine (HG8.out).mono ?_; rintro e w9 ⟨lv9, z9, B9, S9, e9, cy9, E9, Hcy9, sy9, oy9, iy9, rfl, hS9, HQ9, h9a⟩; have h9b := h9a.newBlk 45 czr; have r9 := h9b.blk; have h9c := Lib.hid (h9b.setRow cy9); clear h9a h9b)
    | (rw [← HCZR.out]; refine wpList_store_row rfl 45 _ _ rfl w9.heap.size cy9 rfl rfl 45 czr r9 iy9 (by rw [szr, sy9]) oy9 ?_))
  obtain ⟨g9, hg9⟩ : ∃ n, n = w9.heap.size := ⟨_, rfl⟩
  obtain ⟨v9, hv9⟩ : ∃ W, W = (w9.alloc (.cells czr 45)).setRow w9.heap.size cy9 := ⟨_, rfl⟩
  rw [← hv9] at h9c ⊢
  rw [← hg9] at h9c ⊢
  clear hg9 hv9 r9 HG8
  have h9p := St.pack (l' := [_, _]) h9c.out
  have h9q := St.pack (l' := [_, _, _, _, _, _]) h9p.bring12.bring12.bring12.bring12.bring12.bring12
  obtain ⟨KP, hKP⟩ : ∃ P : Ass, P = Sep [BlkA g7 26 cy7, OlA ivl 3 (.slice A70 X7.length c70) X7, ObA 5 (.slice B7 S7.length e7) S7] := ⟨_, rfl⟩
  obtain ⟨TP, hTP⟩ : ∃ P : Ass, P = Sep [BlkA g9 45 cy9, ObA 5 (.slice B9 S9.length e9) S9] := ⟨_, rfl⟩
  obtain ⟨RP, hRP⟩ : ∃ P : Ass, P = Sep [ObA 5 (.slice Aw br.length mw) br, ObA 5 (.slice Ai bn.length mi) bn, ObA 5 (.slice Ac br.length mc) br, ObA 5 (.slice Ab bn.length mb) bn, BlkA (w.heap.size + 1) 45 cxr, BlkA w.heap.size 26 cxn] := ⟨_, rfl⟩
  have iK : Stable KP := by rw [hKP]; infer_instance
  have iT : Stable TP := by rw [hTP]; infer_instance
  have iR : Stable RP := by rw [hRP]; infer_instance
  have h10 : St Zf [RP, TP, BlkA g8 45 cy8, ObA 5 (.slice B8 S8.length e8) S8, KP, BlkA g6 26 cy6, OlA ivl 3 (.slice A60 X6.length c60) X6, ObA 5 (.slice B6 S6.length e6) S6] w v9 := by
    rw [hKP, hTP, hRP]
    exact h9q
  have HKP := Lib.hid hKP
  have HTP := Lib.hid hTP
  have HRP := Lib.hid hRP
  have H10 := Lib.hid h10.bring7
  have hq10 := h10.bring5
  rw [Hcy6.out] at hq10
  obtain ⟨x0, x1, x2, x3, x4⟩ := cellsnodT hq10
  clear h8c h9c h9p h9q h10 hq10 hKP hTP hRP
  go_upto_region 11 with fail
  clear x0 x1 x2 x3 x4
  go_loopw [63] (fun i wr => ∃ (j : Nat) (X : List Nat), j ≤ S6.length ∧ i = .int .i64 j ∧ X.length = S6.length ∧ St Zf [ObA 5 (.slice B6 S6.length e6) X, RP, TP, BlkA g8 45 cy8, ObA 5 (.slice B8 S8.length e8) S8, KP, BlkA g6 26 cy6, OlA ivl 3 (.slice A60 X6.length c60) X6] w wr) (fun i _ => S6.length - (intOf i).toNat)
  case atStart => exact ⟨0, S6, Nat.zero_le _, rfl, rfl, H10.out⟩
  case round =>
    obtain ⟨j, Xa, hjl, rfl, hXa, hst⟩ := hrel
    have hb := hst.bring6
    rw [Hcy6.out] at hb
    obtain ⟨x0, x1, x2, x3, x4⟩ := cellsnodT hb
    clear hb
    by_cases hlt : j < S6.length
    · obtain ⟨gg, rfl, ⟨u0, hu0⟩, hfz, hst'⟩ := hst.storeOb hXa hlt 238 (by omega)
      have HL := Lib.hid hXa
      have HSt := Lib.hid hst'
      clear hst hst' hXa
      go_wp2
      go_roundw
      case rel => exact ⟨j + 1, Xa.set j 238, by omega, by go_num, by rw [List.length_set]; exact HL.out, HSt.out⟩
      case measure => simp [intOf]; omega
    · obtain rfl : j = S6.length := by omega
      have HXa := Lib.hid hXa
      have H15 := Lib.hid hst.bring7
      clear hst hXa hlt hjl
      go_upto_region 16 with fail
      clear x0 x1 x2 x3 x4
      go_loopw [74] (fun i wr => ∃ (j : Nat) (Y : List Int), j ≤ X6.length ∧ i = .int .i64 j ∧ Y.length = X6.length ∧ St Zf [OlA ivl 3 (.slice A60 X6.length c60) Y, ObA 5 (.slice B6 S6.length e6) Xa, RP, TP, BlkA g8 45 cy8, ObA 5 (.slice B8 S8.length e8) S8, KP, BlkA g6 26 cy6] w wr) (fun i _ => X6.length - (intOf i).toNat)
      case atStart => exact ⟨0, X6, Nat.zero_le _, rfl, rfl, H15.out⟩
      case round =>
        obtain ⟨j, Y, hjl, rfl, hY, hst⟩ := hrel
        have hb := hst.bring7
        rw [Hcy6.out] at hb
        obtain ⟨x0, x1, x2, x3, x4⟩ := cellsnodT hb
        clear hb
        by_cases hlt : j < X6.length
        · obtain ⟨gg, rfl, ⟨u0, hu0⟩, hfz, hst'⟩ := hst.storeOl hY hlt (-7) (ivl_ok (-7))
          have HL := Lib.hid hY
          have HSt := Lib.hid hst'
          clear hst hst' hY
          go_wp2
          go_roundw
          case rel => exact ⟨j + 1, Y.set j (-7), by omega, by go_num, by rw [List.length_set]; exact HL.out, HSt.out⟩
          case measure => simp [intOf]; omega
        · obtain rfl : j = X6.length := by omega
          have H20 := Lib.hid hst.swap
          have HY := Lib.hid hY
          have Hl1 : Hid (Xa.length + 1 ≤ 140737488355328) := Lib.hid (by have := HXa.out; omega)
          obtain ⟨w20, hw20⟩ : ∃ z, z = wr := ⟨_, rfl⟩
          rw [← hw20] at H20 x0 x1 x2 x3 x4 ⊢
          clear hw20 hst hY hlt hjl
          go_upto_region 21 with (at_builtin; refine wpList_append_lit8 _ rfl _ _ 24 rfl 0 5 i0 Try.underlying24 hi0 hz0 hz1 hz2 _ Xa 238 (by rfl) H20.out.ob (by rfl) _ rfl (by decide) Hl1.out (Nat.zero_le _) ?_; intro u21 w21 hown21 hg21 hat21; obtain ⟨F, hF⟩ : ∃ F, F = Xa ++ [238] := ⟨_, rfl⟩; rw [← hF] at hown21; have h21 := H20.out.grewOb hown21 hg21 hat21 (by omega); obtain ⟨B21, e21, rfl, -, -, -, -⟩ := hown21.form; have hb := h21.bring7; rw [Hcy6.out] at hb; have f21 := hb.blk.frozen 4; clear x0 x1 x2 x3 x4; obtain ⟨x0, x1, x2, x3, x4⟩ := cellsnodT hb; have h22 := hb.setBlk 4 (.slice B21 F.length e21); simp only [List.setIfInBounds_toArray, List.set_cons_zero, List.set_cons_succ] at h22; have H22 := Lib.hid h22; clear hown21 hg21 hat21 h21 hb h22 hF)
          obtain ⟨w22, hw22⟩ : ∃ z, z = w21.setCell ⟨g6, 4, none⟩ (.slice B21 F.length e21) := ⟨_, rfl⟩
          rw [← hw22] at H22 ⊢
          clear hw22 x0 x1 x2 x3 x4 f21 H20
          obtain ⟨x0, x1, x2, x3, x4⟩ := cellsnodT H22.out
          have H22b := Lib.hid H22.out.bring2
          have Hb8 : Hid ((Y.length + 1) * 8 ≤ 140737488355328) := Lib.hid (by have := HY.out; omega)
          go_upto_region 22 with (at_builtin; refine wpList_append_elemN _ rfl _ _ 23 rfl 0 3 j0 (.int .i64 0) 8 Try.underlying23 hj hy0 hy1 hy2 rfl _ Y (by rfl) H22b.out.ol (-7) (ivl_ok (-7)) w22.heap.size rfl (by rfl) Hb8.out (by omega) (Nat.zero_le _) ?_; intro u23 w23 hown23 hg23 hat23; obtain ⟨F2, hF2⟩ : ∃ F, F = Y ++ [-7] := ⟨_, rfl⟩; rw [← hF2] at hown23; have h23 := H22b.out.grewOl hown23 hg23 hat23 (Nat.le_succ _); obtain ⟨B23, e23, rfl, -, -, -, -⟩ := hown23.form; have hb := h23.swap; have f23 := hb.blk.frozen 3; clear x0 x1 x2 x3 x4; obtain ⟨x0, x1, x2, x3, x4⟩ := cellsnodT hb; have h24 := (hb.setBlk 3 (.slice B23 F2.length e23)).drop.drop.drop; have H24 := Lib.hid h24; clear hown23 hg23 hat23 h23 hb h24 hF2)
          obtain ⟨w24, hw24⟩ : ∃ z, z = w23.setCell ⟨g6, 3, none⟩ (.slice B23 F2.length e23) := ⟨_, rfl⟩
          rw [← hw24] at H24 ⊢
          clear hw24 x0 x1 x2 x3 x4 f23 H22 H22b
          have H24c := Lib.hid H24.out.bring3
          have hs24 := H24.out.bring2
          rw [Hcy8.out] at hs24
          obtain ⟨y0, y1, y2, y3, y4, y5, y6, y7, y8, y9⟩ := cellsrelT hs24
          clear hs24 H24
          go_upto_region 23 with fail
          clear y0 y1 y2 y3 y4 y5 y6 y7 y8 y9
          go_loopw [95] (fun i wr => ∃ (j : Nat) (Z : List Nat), j ≤ S8.length ∧ i = .int .i64 j ∧ Z.length = S8.length ∧ St Zf [ObA 5 (.slice B8 S8.length e8) Z, RP, TP, BlkA g8 45 cy8, KP] w wr) (fun i _ => S8.length - (intOf i).toNat)
          case atStart => exact ⟨0, S8, Nat.zero_le _, rfl, rfl, H24c.out⟩
          case round =>
            obtain ⟨j, Zl, hjl, rfl, hZ, hst⟩ := hrel
            have hb := hst.bring3
            rw [Hcy8.out] at hb
            obtain ⟨y0, y1, y2, y3, y4, y5, y6, y7, y8, y9⟩ := cellsrelT hb
            clear hb
            by_cases hlt : j < S8.length
            · obtain ⟨gg, rfl, ⟨u0, hu0⟩, hfz, hst'⟩ := hst.storeOb hZ hlt 238 (by omega)
              have HL := Lib.hid hZ
              have HSt := Lib.hid hst'
              clear hst hst' hZ
              go_wp2
              go_roundw
              case rel => exact ⟨j + 1, Zl.set j 238, by omega, by go_num, by rw [List.length_set]; exact HL.out, HSt.out⟩
              case measure => simp [intOf]; omega
            · obtain rfl : j = S8.length := by omega
              have H26 := Lib.hid hst
              have Hl3 : Hid (Zl.length + 1 ≤ 140737488355328) := Lib.hid (by omega)
              obtain ⟨w26, hw26⟩ : ∃ z, z = wr := ⟨_, rfl⟩
              rw [← hw26] at H26 y0 y1 y2 y3 y4 y5 y6 y7 y8 y9 ⊢
              clear hw26 hst hZ hlt hjl
              go_upto_region 28 with (at_builtin; refine wpList_append_lit8 _ rfl _ _ 24 rfl 0 5 i0 Try.underlying24 hi0 hz0 hz1 hz2 _ Zl 238 (by rfl) H26.out.ob (by rfl) _ rfl (by decide) Hl3.out (Nat.zero_le _) ?_; intro u27 w27 hown27 hg27 hat27; obtain ⟨F3, hF3⟩ : ∃ F, F = Zl ++ [238] := ⟨_, rfl⟩; rw [← hF3] at hown27; have h27 := H26.out.grewOb hown27 hg27 hat27 (by omega); obtain ⟨B27, e27, rfl, -, -, -, -⟩ := hown27.form; have hb := h27.bring3; rw [Hcy8.out] at hb; have f27 := hb.blk.frozen 9; clear y0 y1 y2 y3 y4 y5 y6 y7 y8 y9; obtain ⟨y0, y1, y2, y3, y4, y5, y6, y7, y8, y9⟩ := cellsrelT hb; have h28 := (hb.setBlk 9 (.slice B27 F3.length e27)).drop.drop; have H28 := Lib.hid h28; clear hown27 hg27 hat27 h27 hb h28 hF3)
              obtain ⟨w28, hw28⟩ : ∃ z, z = w27.setCell ⟨g8, 9, none⟩ (.slice B27 F3.length e27) := ⟨_, rfl⟩
              rw [← hw28] at H28 ⊢
              clear hw28 y0 y1 y2 y3 y4 y5 y6 y7 y8 y9 f27 H26
              have h28 := H28.out
              rw [HRP.out, HTP.out, HKP.out] at h28
              have h28a := St.flat (l' := [_, _, _, _, _, _]) h28
              simp only [List.cons_append, List.nil_append] at h28a
              have h28f := h28a.bring4
              have k28 : w28.cell? ⟨w.heap.size + 1, 0, none⟩ = some (.bool y.lv) := by rw [h28f.blk.cell 0, HCXR.out]; rfl
              have f28 := h28f.blk.frozen 0
              have h29 := h28f.setBlk 0 (.bool true)
              rw [show cxr.setIfInBounds 0 (.bool true) = #[.bool true, .int .i64 y.fr, .int .i64 y.to, .int .i64 y.fp, .int .i64 y.tp, .int .i64 y.fn, .int .i64 y.tn, .int .i64 y.ty, .int .i64 y.pr, .slice A3 L3.length c3] from by rw [HCXR.out]; rfl] at h29
              have h29b := St.flat (l' := [_, _]) h29.bring6
              simp only [List.cons_append, List.nil_append] at h29b
              have h29c := St.flat (l' := [_, _, _]) h29b.bring8
              simp only [List.cons_append, List.nil_append] at h29c
              have H29 := Lib.hid h29c
              clear h28 h28a h28f h29 h29b h29c H28
              go_upto_region 29 with fail
              obtain ⟨w29, hw29⟩ : ∃ z, z = w28.setCell ⟨w.heap.size + 1, 0, none⟩ (.bool true) := ⟨_, rfl⟩
              rw [← hw29] at H29 ⊢
              clear hw29 k28 f28
              have HMN : Hid (bn.length ≤ maxLen) := Lib.hid (by have := HLN.out; unfold maxLen; omega)
              have HMR : Hid (br.length ≤ maxLen) := Lib.hid (by have := HLR.out; unfold maxLen; omega)
              cases okn
              · cases okr
                · have hec := HEC.out
                  have hed := HED.out
                  simp only [Bool.false_eq_true, if_false] at hec
                  simp only [Bool.false_eq_true, if_false] at hed
                  subst hec hed
                  have hh := H29.out
                  have Qa0 := Lib.hid (same_yes Ai Ab bn.length mi mb _ _ bn _ (hh.bring7).ob.reads.2.1 (hh.bring9).ob.reads.2.1 rfl HMN.out)
                  clear hh
                  go_upto_region 31 with (first
                    | (go_at_call 15; (with_reducible refine (Qa0.out).mono ?_); rintro e Wa0 ⟨rfl, nna0, hwa0⟩; have hh := H29.out.drewN nna0; rw [← hwa0] at hh; clear hwa0; have Qa1 := Lib.hid (same_yes Aw Ac br.length mw mc _ _ br _ (hh.bring6).ob.reads.2.1 (hh.bring8).ob.reads.2.1 rfl HMR.out); have Ka0 := Lib.hid hh; clear hh)
                    | (go_at_call 15; (with_reducible refine (Qa1.out).mono ?_); rintro e Wa1 ⟨rfl, nna1, hwa1⟩; have hh := Ka0.out.drewN nna1; rw [← hwa1] at hh; clear hwa1; have Ka1 := Lib.hid hh; clear hh))
                  have HA1 := Lib.hid Ka1.out.bring7
                  clear H29
                  go_upto_region 32 with fail
                  go_loopw [142] (fun i wr => ∃ (j : Nat) (U : List Nat), j ≤ bn.length ∧ i = .int .i64 j ∧ U.length = bn.length ∧ St Zf [ObA 5 (.slice Ai bn.length mi) U, BlkA g7 26 cy7, OlA ivl 3 (.slice A70 X7.length c70) X7, ObA 5 (.slice B7 S7.length e7) S7, BlkA g9 45 cy9, ObA 5 (.slice B9 S9.length e9) S9, BlkA (w.heap.size + 1) 45 #[.bool true, .int .i64 y.fr, .int .i64 y.to, .int .i64 y.fp, .int .i64 y.tp, .int .i64 y.fn, .int .i64 y.tn, .int .i64 y.ty, .int .i64 y.pr, .slice A3 L3.length c3], ObA 5 (.slice Aw br.length mw) br, ObA 5 (.slice Ac br.length mc) br, ObA 5 (.slice Ab bn.length mb) bn, BlkA w.heap.size 26 cxn] w wr) (fun i _ => bn.length - (intOf i).toNat)
                  case atStart => exact ⟨0, bn, Nat.zero_le _, rfl, rfl, HA1.out⟩
                  case round =>
                    obtain ⟨j, U, hjl, rfl, hU, hst⟩ := hrel
                    by_cases hlt : j < bn.length
                    · obtain ⟨gg, rfl, ⟨u0, hu0⟩, hfz, hst'⟩ := hst.storeOb hU hlt 221 (by omega)
                      have HL := Lib.hid hU
                      have HSt := Lib.hid hst'
                      clear hst hst' hU
                      have hjb : j < 140737488355328 := by have := HLN.out; omega
                      go_wp2
                      go_roundw
                      case rel => exact ⟨j + 1, U.set j 221, by omega, by go_num, by rw [List.length_set]; exact HL.out, HSt.out⟩
                      case measure => simp [intOf]; omega
                    · obtain rfl : j = bn.length := by omega
                      have HA2 := Lib.hid hst.bring7
                      have HU := Lib.hid hU
                      clear hst hU hlt hjl
                      go_upto_region 37 with fail
                      go_loopw [151] (fun i wr => ∃ (j : Nat) (V : List Nat), j ≤ br.length ∧ i = .int .i64 j ∧ V.length = br.length ∧ St Zf [ObA 5 (.slice Aw br.length mw) V, ObA 5 (.slice Ai bn.length mi) U, BlkA g7 26 cy7, OlA ivl 3 (.slice A70 X7.length c70) X7, ObA 5 (.slice B7 S7.length e7) S7, BlkA g9 45 cy9, ObA 5 (.slice B9 S9.length e9) S9, BlkA (w.heap.size + 1) 45 #[.bool true, .int .i64 y.fr, .int .i64 y.to, .int .i64 y.fp, .int .i64 y.tp, .int .i64 y.fn, .int .i64 y.tn, .int .i64 y.ty, .int .i64 y.pr, .slice A3 L3.length c3], ObA 5 (.slice Ac br.length mc) br, ObA 5 (.slice Ab bn.length mb) bn, BlkA w.heap.size 26 cxn] w wr) (fun i _ => br.length - (intOf i).toNat)
                      case atStart => exact ⟨0, br, Nat.zero_le _, rfl, rfl, HA2.out⟩
                      case round =>
                        obtain ⟨j, V, hjl, rfl, hV, hst⟩ := hrel
                        by_cases hlt : j < br.length
                        · obtain ⟨gg, rfl, ⟨u0, hu0⟩, hfz, hst'⟩ := hst.storeOb hV hlt 221 (by omega)
                          have HL := Lib.hid hV
                          have HSt := Lib.hid hst'
                          clear hst hst' hV
                          have hjb : j < 140737488355328 := by have := HLR.out; omega
                          go_wp2
                          go_roundw
                          case rel => exact ⟨j + 1, V.set j 221, by omega, by go_num, by rw [List.length_set]; exact HL.out, HSt.out⟩
                          case measure => simp [intOf]; omega
                        · obtain rfl : j = br.length := by omega
                          obtain ⟨wl, hwl⟩ : ∃ z, z = wr := ⟨_, rfl⟩
                          rw [← hwl] at hst ⊢
                          have HB1 := Lib.hid hst
                          clear hst hV hlt hjl hwl
                          go_wp2
                          go_ret
                          exact ⟨rfl, HB1.out.bel⟩
                · have hec := HEC.out
                  have hed := HED.out
                  simp only [Bool.false_eq_true, if_false] at hec
                  simp only [if_true] at hed
                  subst hec hed
                  obtain ⟨p1, p2, p3⟩ := HQ9.out rfl
                  have hct : cy9 = #[.bool true, .int .i64 y.fr, .int .i64 y.to, .int .i64 y.fp, .int .i64 y.tp, .int .i64 y.fn, .int .i64 y.tn, .int .i64 y.ty, .int .i64 y.pr, .slice B9 L3.length e9] := by
                    have := Hcy9.out
                    rw [p1, p2, p3] at this
                    exact this
                  have hh := H29.out
                  have ct := hh.bring3
                  rw [hct] at ct
                  obtain ⟨s0, s1, s2, s3, s4, s5, s6, s7, s8, s9⟩ := cellsrelT ct
                  have cr := hh.bring5
                  obtain ⟨t0, t1, t2, t3, t4, t5, t6, t7, t8, t9⟩ := cellsrelT cr
                  clear ct cr
                  have Qa0 := Lib.hid (HSR.out B9 e9 w29 (by have := (hh.bring4).ob.reads.2.1; rwa [p3] at this) (HS.out _ _ hh))
                  clear hh
                  go_upto_region 31 with (first
                    | (go_at_call 24; (with_reducible refine (Qa0.out).mono ?_); rintro e Wa0 ⟨rfl, hba0⟩; have hh := H29.out.below hba0; clear hba0 s0 s1 s2 s3 s4 s5 s6 s7 s8 s9 t0 t1 t2 t3 t4 t5 t6 t7 t8 t9; have Qa1 := Lib.hid (same_yes Ai Ab bn.length mi mb _ _ bn _ (hh.bring7).ob.reads.2.1 (hh.bring9).ob.reads.2.1 rfl HMN.out); have Ka0 := Lib.hid hh; clear hh)
                    | (go_at_call 15; (with_reducible refine (Qa1.out).mono ?_); rintro e Wa1 ⟨rfl, nna1, hwa1⟩; have hh := Ka0.out.drewN nna1; rw [← hwa1] at hh; clear hwa1; have Qa2 := Lib.hid (same_yes Aw Ac br.length mw mc _ _ br _ (hh.bring6).ob.reads.2.1 (hh.bring8).ob.reads.2.1 rfl HMR.out); have Ka1 := Lib.hid hh; clear hh)
                    | (go_at_call 15; (with_reducible refine (Qa2.out).mono ?_); rintro e Wa2 ⟨rfl, nna2, hwa2⟩; have hh := Ka1.out.drewN nna2; rw [← hwa2] at hh; clear hwa2; have Ka2 := Lib.hid hh; clear hh))
                  have HA1 := Lib.hid Ka2.out.bring7
                  clear H29
                  go_upto_region 32 with fail
                  go_loopw [142] (fun i wr => ∃ (j : Nat) (U : List Nat), j ≤ bn.length ∧ i = .int .i64 j ∧ U.length = bn.length ∧ St Zf [ObA 5 (.slice Ai bn.length mi) U, BlkA g7 26 cy7, OlA ivl 3 (.slice A70 X7.length c70) X7, ObA 5 (.slice B7 S7.length e7) S7, BlkA g9 45 cy9, ObA 5 (.slice B9 S9.length e9) S9, BlkA (w.heap.size + 1) 45 #[.bool true, .int .i64 y.fr, .int .i64 y.to, .int .i64 y.fp, .int .i64 y.tp, .int .i64 y.fn, .int .i64 y.tn, .int .i64 y.ty, .int .i64 y.pr, .slice A3 L3.length c3], ObA 5 (.slice Aw br.length mw) br, ObA 5 (.slice Ac br.length mc) br, ObA 5 (.slice Ab bn.length mb) bn, BlkA w.heap.size 26 cxn] w wr) (fun i _ => bn.length - (intOf i).toNat)
                  case atStart => exact ⟨0, bn, Nat.zero_le _, rfl, rfl, HA1.out⟩
                  case round =>
                    obtain ⟨j, U, hjl, rfl, hU, hst⟩ := hrel
                    by_cases hlt : j < bn.length
                    · obtain ⟨gg, rfl, ⟨u0, hu0⟩, hfz, hst'⟩ := hst.storeOb hU hlt 221 (by omega)
                      have HL := Lib.hid hU
                      have HSt := Lib.hid hst'
                      clear hst hst' hU
                      have hjb : j < 140737488355328 := by have := HLN.out; omega
                      go_wp2
                      go_roundw
                      case rel => exact ⟨j + 1, U.set j 221, by omega, by go_num, by rw [List.length_set]; exact HL.out, HSt.out⟩
                      case measure => simp [intOf]; omega
                    · obtain rfl : j = bn.length := by omega
                      have HA2 := Lib.hid hst.bring7
                      have HU := Lib.hid hU
                      clear hst hU hlt hjl
                      go_upto_region 37 with fail
                      go_loopw [151] (fun i wr => ∃ (j : Nat) (V : List Nat), j ≤ br.length ∧ i = .int .i64 j ∧ V.length = br.length ∧ St Zf [ObA 5 (.slice Aw br.length mw) V, ObA 5 (.slice Ai bn.length mi) U, BlkA g7 26 cy7, OlA ivl 3 (.slice A70 X7.length c70) X7, ObA 5 (.slice B7 S7.length e7) S7, BlkA g9 45 cy9, ObA 5 (.slice B9 S9.length e9) S9, BlkA (w.heap.size + 1) 45 #[.bool true, .int .i64 y.fr, .int .i64 y.to, .int .i64 y.fp, .int .i64 y.tp, .int .i64 y.fn, .int .i64 y.tn, .int .i64 y.ty, .int .i64 y.pr, .slice A3 L3.length c3], ObA 5 (.slice Ac br.length mc) br, ObA 5 (.slice Ab bn.length mb) bn, BlkA w.heap.size 26 cxn] w wr) (fun i _ => br.length - (intOf i).toNat)
                      case atStart => exact ⟨0, br, Nat.zero_le _, rfl, rfl, HA2.out⟩
                      case round =>
                        obtain ⟨j, V, hjl, rfl, hV, hst⟩ := hrel
                        by_cases hlt : j < br.length
                        · obtain ⟨gg, rfl, ⟨u0, hu0⟩, hfz, hst'⟩ := hst.storeOb hV hlt 221 (by omega)
                          have HL := Lib.hid hV
                          have HSt := Lib.hid hst'
                          clear hst hst' hV
                          have hjb : j < 140737488355328 := by have := HLR.out; omega
                          go_wp2
                          go_roundw
                          case rel => exact ⟨j + 1, V.set j 221, by omega, by go_num, by rw [List.length_set]; exact HL.out, HSt.out⟩
                          case measure => simp [intOf]; omega
                        · obtain rfl : j = br.length := by omega
                          obtain ⟨wl, hwl⟩ : ∃ z, z = wr := ⟨_, rfl⟩
                          rw [← hwl] at hst ⊢
                          have HB1 := Lib.hid hst
                          clear hst hV hlt hjl hwl
                          have hh := HB1.out
                          have ct := hh.bring5
                          rw [hct] at ct
                          obtain ⟨s0, s1, s2, s3, s4, s5, s6, s7, s8, s9⟩ := cellsrelT ct
                          have cr := hh.bring7
                          obtain ⟨t0, t1, t2, t3, t4, t5, t6, t7, t8, t9⟩ := cellsrelT cr
                          clear ct cr
                          have Qb0 := Lib.hid (HSR.out B9 e9 wl (by have := (hh.bring6).ob.reads.2.1; rwa [p3] at this) (HS.out _ _ hh))
                          clear hh
                          go_wp2_with (first
                            | (go_at_call 24; (with_reducible refine (Qb0.out).mono ?_); rintro e Wb0 ⟨rfl, hbb0⟩; have hh := HB1.out.below hbb0; clear hbb0 s0 s1 s2 s3 s4 s5 s6 s7 s8 s9 t0 t1 t2 t3 t4 t5 t6 t7 t8 t9; have Kb0 := Lib.hid hh; clear hh))
                          go_ret
                          exact ⟨rfl, Kb0.out.bel⟩
              · cases okr
                · have hec := HEC.out
                  have hed := HED.out
                  simp only [if_true] at hec
                  simp only [Bool.false_eq_true, if_false] at hed
                  subst hec hed
                  obtain ⟨q1, q2, q3, q4, q5⟩ := HQ7.out rfl
                  have hck : cy7 = #[.bool x.d, .int .i64 x.f, .int .i64 x.o, .slice A70 L.length c70, .slice B7 L2.length e7] := by
                    have := Hcy7.out
                    rw [q1, q2, q3, q4, q5] at this
                    exact this
                  have hh := H29.out
                  have ck := hh
                  rw [hck] at ck
                  obtain ⟨n0, n1, n2, n3, n4⟩ := cellsnodT ck
                  have cn := hh.bring10
                  rw [HCXN.out] at cn
                  obtain ⟨m0, m1, m2, m3, m4⟩ := cellsnodT cn
                  clear ck cn
                  have Qa0 := Lib.hid (HSN.out A70 B7 c70 e7 w29 (by have := (hh.swap).ol.reads.2.1; rwa [q4] at this) (by have := (hh.bring2).ob.reads.2.1; rwa [q5] at this) (HS.out _ _ hh))
                  clear hh
                  go_upto_region 31 with (first
                    | (go_at_call 16; (with_reducible refine (Qa0.out).mono ?_); rintro e Wa0 ⟨rfl, hba0⟩; have hh := H29.out.below hba0; clear hba0 n0 n1 n2 n3 n4 m0 m1 m2 m3 m4; have Qa1 := Lib.hid (same_yes Ai Ab bn.length mi mb _ _ bn _ (hh.bring7).ob.reads.2.1 (hh.bring9).ob.reads.2.1 rfl HMN.out); have Ka0 := Lib.hid hh; clear hh)
                    | (go_at_call 15; (with_reducible refine (Qa1.out).mono ?_); rintro e Wa1 ⟨rfl, nna1, hwa1⟩; have hh := Ka0.out.drewN nna1; rw [← hwa1] at hh; clear hwa1; have Qa2 := Lib.hid (same_yes Aw Ac br.length mw mc _ _ br _ (hh.bring6).ob.reads.2.1 (hh.bring8).ob.reads.2.1 rfl HMR.out); have Ka1 := Lib.hid hh; clear hh)
                    | (go_at_call 15; (with_reducible refine (Qa2.out).mono ?_); rintro e Wa2 ⟨rfl, nna2, hwa2⟩; have hh := Ka1.out.drewN nna2; rw [← hwa2] at hh; clear hwa2; have Ka2 := Lib.hid hh; clear hh))
                  have HA1 := Lib.hid Ka2.out.bring7
                  clear H29
                  go_upto_region 32 with fail
                  go_loopw [142] (fun i wr => ∃ (j : Nat) (U : List Nat), j ≤ bn.length ∧ i = .int .i64 j ∧ U.length = bn.length ∧ St Zf [ObA 5 (.slice Ai bn.length mi) U, BlkA g7 26 cy7, OlA ivl 3 (.slice A70 X7.length c70) X7, ObA 5 (.slice B7 S7.length e7) S7, BlkA g9 45 cy9, ObA 5 (.slice B9 S9.length e9) S9, BlkA (w.heap.size + 1) 45 #[.bool true, .int .i64 y.fr, .int .i64 y.to, .int .i64 y.fp, .int .i64 y.tp, .int .i64 y.fn, .int .i64 y.tn, .int .i64 y.ty, .int .i64 y.pr, .slice A3 L3.length c3], ObA 5 (.slice Aw br.length mw) br, ObA 5 (.slice Ac br.length mc) br, ObA 5 (.slice Ab bn.length mb) bn, BlkA w.heap.size 26 cxn] w wr) (fun i _ => bn.length - (intOf i).toNat)
                  case atStart => exact ⟨0, bn, Nat.zero_le _, rfl, rfl, HA1.out⟩
                  case round =>
                    obtain ⟨j, U, hjl, rfl, hU, hst⟩ := hrel
                    by_cases hlt : j < bn.length
                    · obtain ⟨gg, rfl, ⟨u0, hu0⟩, hfz, hst'⟩ := hst.storeOb hU hlt 221 (by omega)
                      have HL := Lib.hid hU
                      have HSt := Lib.hid hst'
                      clear hst hst' hU
                      have hjb : j < 140737488355328 := by have := HLN.out; omega
                      go_wp2
                      go_roundw
                      case rel => exact ⟨j + 1, U.set j 221, by omega, by go_num, by rw [List.length_set]; exact HL.out, HSt.out⟩
                      case measure => simp [intOf]; omega
                    · obtain rfl : j = bn.length := by omega
                      have HA2 := Lib.hid hst.bring7
                      have HU := Lib.hid hU
                      clear hst hU hlt hjl
                      go_upto_region 37 with fail
                      go_loopw [151] (fun i wr => ∃ (j : Nat) (V : List Nat), j ≤ br.length ∧ i = .int .i64 j ∧ V.length = br.length ∧ St Zf [ObA 5 (.slice Aw br.length mw) V, ObA 5 (.slice Ai bn.length mi) U, BlkA g7 26 cy7, OlA ivl 3 (.slice A70 X7.length c70) X7, ObA 5 (.slice B7 S7.length e7) S7, BlkA g9 45 cy9, ObA 5 (.slice B9 S9.length e9) S9, BlkA (w.heap.size + 1) 45 #[.bool true, .int .i64 y.fr, .int .i64 y.to, .int .i64 y.fp, .int .i64 y.tp, .int .i64 y.fn, .int .i64 y.tn, .int .i64 y.ty, .int .i64 y.pr, .slice A3 L3.length c3], ObA 5 (.slice Ac br.length mc) br, ObA 5 (.slice Ab bn.length mb) bn, BlkA w.heap.size 26 cxn] w wr) (fun i _ => br.length - (intOf i).toNat)
                      case atStart => exact ⟨0, br, Nat.zero_le _, rfl, rfl, HA2.out⟩
                      case round =>
                        obtain ⟨j, V, hjl, rfl, hV, hst⟩ := hrel
                        by_cases hlt : j < br.length
                        · obtain ⟨gg, rfl, ⟨u0, hu0⟩, hfz, hst'⟩ := hst.storeOb hV hlt 221 (by omega)
                          have HL := Lib.hid hV
                          have HSt := Lib.hid hst'
                          clear hst hst' hV
                          have hjb : j < 140737488355328 := by have := HLR.out; omega
                          go_wp2
                          go_roundw
                          case rel => exact ⟨j + 1, V.set j 221, by omega, by go_num, by rw [List.length_set]; exact HL.out, HSt.out⟩
                          case measure => simp [intOf]; omega
                        · obtain rfl : j = br.length := by omega
                          obtain ⟨wl, hwl⟩ : ∃ z, z = wr := ⟨_, rfl⟩
                          rw [← hwl] at hst ⊢
                          have HB1 := Lib.hid hst
                          clear hst hV hlt hjl hwl
                          have hh := HB1.out
                          have ck := hh.bring2
                          rw [hck] at ck
                          obtain ⟨n0, n1, n2, n3, n4⟩ := cellsnodT ck
                          have cn := hh.bring10
                          rw [HCXN.out] at cn
                          obtain ⟨m0, m1, m2, m3, m4⟩ := cellsnodT cn
                          clear ck cn
                          have Qb0 := Lib.hid (HSN.out A70 B7 c70 e7 wl (by have := (hh.bring3).ol.reads.2.1; rwa [q4] at this) (by have := (hh.bring4).ob.reads.2.1; rwa [q5] at this) (HS.out _ _ hh))
                          clear hh
                          go_wp2_with (first
                            | (go_at_call 16; (with_reducible refine (Qb0.out).mono ?_); rintro e Wb0 ⟨rfl, hbb0⟩; have hh := HB1.out.below hbb0; clear hbb0 n0 n1 n2 n3 n4 m0 m1 m2 m3 m4; have Kb0 := Lib.hid hh; clear hh))
                          go_ret
                          exact ⟨rfl, Kb0.out.bel⟩
                · have hec := HEC.out
                  have hed := HED.out
                  simp only [if_true] at hec
                  simp only [if_true] at hed
                  subst hec hed
                  obtain ⟨q1, q2, q3, q4, q5⟩ := HQ7.out rfl
                  have hck : cy7 = #[.bool x.d, .int .i64 x.f, .int .i64 x.o, .slice A70 L.length c70, .slice B7 L2.length e7] := by
                    have := Hcy7.out
                    rw [q1, q2, q3, q4, q5] at this
                    exact this
                  obtain ⟨p1, p2, p3⟩ := HQ9.out rfl
                  have hct : cy9 = #[.bool true, .int .i64 y.fr, .int .i64 y.to, .int .i64 y.fp, .int .i64 y.tp, .int .i64 y.fn, .int .i64 y.tn, .int .i64 y.ty, .int .i64 y.pr, .slice B9 L3.length e9] := by
                    have := Hcy9.out
                    rw [p1, p2, p3] at this
                    exact this
                  have hh := H29.out
                  have ck := hh
                  rw [hck] at ck
                  obtain ⟨n0, n1, n2, n3, n4⟩ := cellsnodT ck
                  have cn := hh.bring10
                  rw [HCXN.out] at cn
                  obtain ⟨m0, m1, m2, m3, m4⟩ := cellsnodT cn
                  clear ck cn
                  have ct := hh.bring3
                  rw [hct] at ct
                  obtain ⟨s0, s1, s2, s3, s4, s5, s6, s7, s8, s9⟩ := cellsrelT ct
                  have cr := hh.bring5
                  obtain ⟨t0, t1, t2, t3, t4, t5, t6, t7, t8, t9⟩ := cellsrelT cr
                  clear ct cr
                  have Qa0 := Lib.hid (HSN.out A70 B7 c70 e7 w29 (by have := (hh.swap).ol.reads.2.1; rwa [q4] at this) (by have := (hh.bring2).ob.reads.2.1; rwa [q5] at this) (HS.out _ _ hh))
                  clear hh
                  go_upto_region 31 with (first
                    | (go_at_call 16; (with_reducible refine (Qa0.out).mono ?_); rintro e Wa0 ⟨rfl, hba0⟩; have hh := H29.out.below hba0; clear hba0 n0 n1 n2 n3 n4 m0 m1 m2 m3 m4 s0 s1 s2 s3 s4 s5 s6 s7 s8 s9 t0 t1 t2 t3 t4 t5 t6 t7 t8 t9; have ct := hh.bring3; rw [hct] at ct; obtain ⟨s0, s1, s2, s3, s4, s5, s6, s7, s8, s9⟩ := cellsrelT ct; have cr := hh.bring5; obtain ⟨t0, t1, t2, t3, t4, t5, t6, t7, t8, t9⟩ := cellsrelT cr; clear ct cr; have Qa1 := Lib.hid (HSR.out B9 e9 Wa0 (by have := (hh.bring4).ob.reads.2.1; rwa [p3] at this) (HS.out _ _ hh)); have Ka0 := Lib.hid hh; clear hh)
                    | (go_at_call 24; (with_reducible refine (Qa1.out).mono ?_); rintro e Wa1 ⟨rfl, hba1⟩; have hh := Ka0.out.below hba1; clear hba1 s0 s1 s2 s3 s4 s5 s6 s7 s8 s9 t0 t1 t2 t3 t4 t5 t6 t7 t8 t9; have Qa2 := Lib.hid (same_yes Ai Ab bn.length mi mb _ _ bn _ (hh.bring7).ob.reads.2.1 (hh.bring9).ob.reads.2.1 rfl HMN.out); have Ka1 := Lib.hid hh; clear hh)
                    | (go_at_call 15; (with_reducible refine (Qa2.out).mono ?_); rintro e Wa2 ⟨rfl, nna2, hwa2⟩; have hh := Ka1.out.drewN nna2; rw [← hwa2] at hh; clear hwa2; have Qa3 := Lib.hid (same_yes Aw Ac br.length mw mc _ _ br _ (hh.bring6).ob.reads.2.1 (hh.bring8).ob.reads.2.1 rfl HMR.out); have Ka2 := Lib.hid hh; clear hh)
                    | (go_at_call 15; (with_reducible refine (Qa3.out).mono ?_); rintro e Wa3 ⟨rfl, nna3, hwa3⟩; have hh := Ka2.out.drewN nna3; rw [← hwa3] at hh; clear hwa3; have Ka3 := Lib.hid hh; clear hh))
                  have HA1 := Lib.hid Ka3.out.bring7
                  clear H29
                  go_upto_region 32 with fail
                  go_loopw [142] (fun i wr => ∃ (j : Nat) (U : List Nat), j ≤ bn.length ∧ i = .int .i64 j ∧ U.length = bn.length ∧ St Zf [ObA 5 (.slice Ai bn.length mi) U, BlkA g7 26 cy7, OlA ivl 3 (.slice A70 X7.length c70) X7, ObA 5 (.slice B7 S7.length e7) S7, BlkA g9 45 cy9, ObA 5 (.slice B9 S9.length e9) S9, BlkA (w.heap.size + 1) 45 #[.bool true, .int .i64 y.fr, .int .i64 y.to, .int .i64 y.fp, .int .i64 y.tp, .int .i64 y.fn, .int .i64 y.tn, .int .i64 y.ty, .int .i64 y.pr, .slice A3 L3.length c3], ObA 5 (.slice Aw br.length mw) br, ObA 5 (.slice Ac br.length mc) br, ObA 5 (.slice Ab bn.length mb) bn, BlkA w.heap.size 26 cxn] w wr) (fun i _ => bn.length - (intOf i).toNat)
                  case atStart => exact ⟨0, bn, Nat.zero_le _, rfl, rfl, HA1.out⟩
                  case round =>
                    obtain ⟨j, U, hjl, rfl, hU, hst⟩ := hrel
                    by_cases hlt : j < bn.length
                    · obtain ⟨gg, rfl, ⟨u0, hu0⟩, hfz, hst'⟩ := hst.storeOb hU hlt 221 (by omega)
                      have HL := Lib.hid hU
                      have HSt := Lib.hid hst'
                      clear hst hst' hU
                      have hjb : j < 140737488355328 := by have := HLN.out; omega
                      go_wp2
                      go_roundw
                      case rel => exact ⟨j + 1, U.set j 221, by omega, by go_num, by rw [List.length_set]; exact HL.out, HSt.out⟩
                      case measure => simp [intOf]; omega
                    · obtain rfl : j = bn.length := by omega
                      have HA2 := Lib.hid hst.bring7
                      have HU := Lib.hid hU
                      clear hst hU hlt hjl
                      go_upto_region 37 with fail
                      go_loopw [151] (fun i wr => ∃ (j : Nat) (V : List Nat), j ≤ br.length ∧ i = .int .i64 j ∧ V.length = br.length ∧ St Zf [ObA 5 (.slice Aw br.length mw) V, ObA 5 (.slice Ai bn.length mi) U, BlkA g7 26 cy7, OlA ivl 3 (.slice A70 X7.length c70) X7, ObA 5 (.slice B7 S7.length e7) S7, BlkA g9 45 cy9, ObA 5 (.slice B9 S9.length e9) S9, BlkA (w.heap.size + 1) 45 #[.bool true, .int .i64 y.fr, .int .i64 y.to, .int .i64 y.fp, .int .i64 y.tp, .int .i64 y.fn, .int .i64 y.tn, .int .i64 y.ty, .int .i64 y.pr, .slice A3 L3.length c3], ObA 5 (.slice Ac br.length mc) br, ObA 5 (.slice Ab bn.length mb) bn, BlkA w.heap.size 26 cxn] w wr) (fun i _ => br.length - (intOf i).toNat)
                      case atStart => exact ⟨0, br, Nat.zero_le _, rfl, rfl, HA2.out⟩
                      case round =>
                        obtain ⟨j, V, hjl, rfl, hV, hst⟩ := hrel
                        by_cases hlt : j < br.length
                        · obtain ⟨gg, rfl, ⟨u0, hu0⟩, hfz, hst'⟩ := hst.storeOb hV hlt 221 (by omega)
                          have HL := Lib.hid hV
                          have HSt := Lib.hid hst'
                          clear hst hst' hV
                          have hjb : j < 140737488355328 := by have := HLR.out; omega
                          go_wp2
                          go_roundw
                          case rel => exact ⟨j + 1, V.set j 221, by omega, by go_num, by rw [List.length_set]; exact HL.out, HSt.out⟩
                          case measure => simp [intOf]; omega
                        · obtain rfl : j = br.length := by omega
                          obtain ⟨wl, hwl⟩ : ∃ z, z = wr := ⟨_, rfl⟩
                          rw [← hwl] at hst ⊢
                          have HB1 := Lib.hid hst
                          clear hst hV hlt hjl hwl
                          have hh := HB1.out
                          have ck := hh.bring2
                          rw [hck] at ck
                          obtain ⟨n0, n1, n2, n3, n4⟩ := cellsnodT ck
                          have cn := hh.bring10
                          rw [HCXN.out] at cn
                          obtain ⟨m0, m1, m2, m3, m4⟩ := cellsnodT cn
                          clear ck cn
                          have ct := hh.bring5
                          rw [hct] at ct
                          obtain ⟨s0, s1, s2, s3, s4, s5, s6, s7, s8, s9⟩ := cellsrelT ct
                          have cr := hh.bring7
                          obtain ⟨t0, t1, t2, t3, t4, t5, t6, t7, t8, t9⟩ := cellsrelT cr
                          clear ct cr
                          have Qb0 := Lib.hid (HSN.out A70 B7 c70 e7 wl (by have := (hh.bring3).ol.reads.2.1; rwa [q4] at this) (by have := (hh.bring4).ob.reads.2.1; rwa [q5] at this) (HS.out _ _ hh))
                          clear hh
                          go_wp2_with (first
                            | (go_at_call 16; (with_reducible refine (Qb0.out).mono ?_); rintro e Wb0 ⟨rfl, hbb0⟩; have hh := HB1.out.below hbb0; clear hbb0 n0 n1 n2 n3 n4 m0 m1 m2 m3 m4 s0 s1 s2 s3 s4 s5 s6 s7 s8 s9 t0 t1 t2 t3 t4 t5 t6 t7 t8 t9; have ct := hh.bring5; rw [hct] at ct; obtain ⟨s0, s1, s2, s3, s4, s5, s6, s7, s8, s9⟩ := cellsrelT ct; have cr := hh.bring7; obtain ⟨t0, t1, t2, t3, t4, t5, t6, t7, t8, t9⟩ := cellsrelT cr; clear ct cr; have Qb1 := Lib.hid (HSR.out B9 e9 Wb0 (by have := (hh.bring6).ob.reads.2.1; rwa [p3] at this) (HS.out _ _ hh)); have Kb0 := Lib.hid hh; clear hh)
                            | (go_at_call 24; (with_reducible refine (Qb1.out).mono ?_); rintro e Wb1 ⟨rfl, hbb1⟩; have hh := Kb0.out.below hbb1; clear hbb1 s0 s1 s2 s3 s4 s5 s6 s7 s8 s9 t0 t1 t2 t3 t4 t5 t6 t7 t8 t9; have Kb1 := Lib.hid hh; clear hh))
                          go_ret
                          exact ⟨rfl, Kb1.out.bel⟩

/-! ### THE ROW's STEP -/
theorem own : ownKnob Try.prog.godebug = none := by kernel_rfl
theorem laidOut : laidOutB Try.prog = true := by kernel_rfl

set_option maxRecDepth 100000 in
theorem contract (H : Type) (enc : TypeId × Value → H) (W : World) (base : Nat) (args : Array Value) (ds gs : List (DataW H)) (before : List MemPlace)
    (hval0 : ∀ (j : Nat) t v, Try.f10.params[j]? = some t → args[j]? = some v → Value.okWide Try.prog W .any base t v)
    (hW : DataW.Whole enc Try.prog Try.f10.params.toList Rows.rectwoOwnSpec.vars false W args.toList ds gs before)
    (hsz : (DataW.weightsEach Try.prog (Try.f10.params.toList ++ (OpenSpec.ofChange Rows.rectwoOwnSpec).bare.plain.varTypes Try.prog) (ds ++ gs)).all (· ≤ reachBytes) = true) :
    Calls Try.prog 10 args W fun e W' => ∃ v, e = .returned v ∧ Rows.rectwoOwnSpec.post enc Try.prog Try.f10 false true false false W args v W' := by
  have hval : ∀ (j : Nat) t v, Try.f10.params[j]? = some t → args[j]? = some v → Value.okWide Try.prog W .any base t v := hval0
  have hW' := hW
  obtain ⟨p, q, hA0, hV, rfl, hfz, hnd⟩ := hW
  have hA : DataW.TrodAll enc Try.prog W 0 (fun _ => true) true Try.f10.params.toList args.toList ds p := hA0
  rw [Try.params10] at hA hval
  obtain ⟨v0, vs0, d0, ds0, p0, q0, hargs, rfl, rfl, h0, r0⟩ := trodAll_cons hA
  obtain ⟨v1, vs1, d1, ds1, p1, q1, rfl, rfl, rfl, h1, r1⟩ := trodAll_cons r0
  obtain ⟨rfl, rfl, rfl⟩ := trodAll_nil r1
  obtain rfl : args = #[v0, v1] := by cases args; simp_all
  obtain ⟨rfl, rfl⟩ := trodVars_none hV
  have k0 := h0
  have lt0 : ∀ x ∈ p0, x.block < W.heap.size := by obtain ⟨m, hm⟩ := k0; exact DataW.trod_lt m _ _ _ hm
  have w0 := reach_at hsz (j := 0) rfl rfl
  have k1 := h1
  have lt1 : ∀ x ∈ p1, x.block < W.heap.size := by obtain ⟨m, hm⟩ := k1; exact DataW.trod_lt m _ _ _ hm
  have w1 := reach_at hsz (j := 1) rfl rfl
  clear hA0 hval0 hsz
  obtain ⟨x0, A0, L0, c0, A20, L20, c20, rfl, hx0⟩ := open_nodT (hval 0 _ v0 rfl rfl) w0 h0 lt0
  obtain ⟨x1, A1, L1, c1, rfl, hx1⟩ := open_relT (hval 1 _ v1 rfl rfl) w1 h1 lt1
  refine (walk W hx0 hx1).mono fun e W' ⟨he, bel⟩ => ?_
  subst he
  exact ⟨_, rfl, _, _, _, [], _, [], hW', trodAll_mk1 (shut_bool Try.underlying4 _), (trodAll_cons_mk (Below.trod laidOut (by kernel_rfl) (of_decide_eq_true (by kernel_rfl)) k0 bel lt0) (trodAll_cons_mk (Below.trod laidOut (by kernel_rfl) (of_decide_eq_true (by kernel_rfl)) k1 bel lt1) trodAll_mk0)), rfl, bel.frame _, fun h => by cases h⟩

set_option maxRecDepth 100000 in
theorem lifted (os : Os) (started : os.Started) (H : Type) (enc : TypeId × Value → H) :
    ReturnsInHanded {} Try.checked os 10 .any (Rows.rectwoOwnSpec.pre6 enc Try.prog Try.f10 Rows.rectwoOwnRow.domain false) (Rows.rectwoOwnSpec.post enc Try.prog Try.f10 false true false false) := by
  refine returnsInHanded_of_change_sized (C := Try.checked) own started (by kernel_rfl) Try.func10
    (ChangeSpec.witness6 (enc := enc) (C := Try.checked) false ⟨#[], #[.agg #[.bool false, .int .i64 0, .int .i64 0, .slice none 0 0, .slice none 0 0], .agg #[.bool false, .int .i64 0, .int .i64 0, .int .i64 0, .int .i64 0, .int .i64 0, .int .i64 0, .int .i64 0, .int .i64 0, .slice none 0 0]], []⟩ 8 (by kernel_rfl) (by kernel_rfl) (by kernel_rfl) (by kernel_rfl)) ?_
  intro W base args ds gs before hval hW _ hsz _
  exact contract H enc W base args ds gs before hval hW hsz

/-- THE STATEMENT -/
theorem proved : Rows.RectwoOwnSaid :=
  OpenClaim.holds_of_wide 10 Try.f10 rfl rfl rfl rfl rfl rfl rfl ⟨rfl, rfl, rfl, rfl, rfl⟩ rfl rfl rfl rfl rfl (by kernel_rfl) Try.func10 (by kernel_rfl)
    (of_decide_eq_true (by kernel_rfl)) (by unfold Func.isWrapper; rw [if_neg (of_decide_eq_false (by kernel_rfl))]; exact ⟨rfl, rfl⟩)
    (fun os started H enc _ => lifted os started H enc)
end Go.Proofs.Ytmiiogailnjfpaa.rectwoOwn
