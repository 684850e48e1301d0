/- Any node record is written, or refused, exactly, and read again. -/
import Derived.Test.YtmiiogailnjfpaaOpen
import Derived.Test.YtmiiogailnjfpaaRows
import Derived.Test.YtmiiogailnjfpaaRdSpeak
import Derived.Test.YtmiiogailnjfpaaRdRefNodT
import Derived.Test.YtmiiogailnjfpaaRdSameNod
import Derived.Test.YtmiiogailnjfpaaRdOpen
import Derived.Laws.StructEq
import Derived.Deep.QuietTactic
import Derived.BigQuiet
import Derived.Deep.RegionHeld3
import Derived.Deep.Cut
namespace Go.Proofs.Ytmiiogailnjfpaa.rectwoNodes
open Go.ChangeShapes Go.WideShapes Go.ChangeAt Go.RowKit
open Go.ChangeMaps (open_string shut_string)
set_option linter.unusedVariables false

set_option maxRecDepth 100000 in
set_option maxHeartbeats 4000000 in
theorem walk (w : World) {x : NodC} {A : Option Addr} {L : List Int} {c : Nat} {A2 : Option Addr} {L2 : List Nat} {c2 : Nat} (hx : (isI x.f ∧ isI x.o ∧ ∀ y ∈ L, isI y) ∧ (RL ivl w w.heap.size A L ∧ L.length ≤ c ∧ c * 8 ≤ 140737488351232) ∧ RB w w.heap.size A2 L2 ∧ L2.length ≤ c2 ∧ c2 ≤ 140737488351232) : Calls Try.prog 4 #[.agg #[.bool x.d, .int .i64 x.f, .int .i64 x.o, .slice A L.length c, .slice A2 L2.length c2]] w fun e w' => e = .returned (.bool true) ∧ Below w.heap.size w w' := by
  obtain ⟨⟨hf, ho, hLi⟩, ⟨hrl, hc, hcm⟩, hrb, hc2, hcm2⟩ := hx
  have hLm2 : L2.length ≤ 140737488351232 := Nat.le_trans hc2 hcm2
  have hcmx : c ≤ maxLen := by unfold maxLen; omega
  have HCO : Hid (∀ (l : List Ass) (W : World), Stable (Sep l) → St Zf l w W → Calls Try.prog 12 #[.agg #[.bool x.d, .int .i64 x.f, .int .i64 x.o, .slice A L.length c, .slice A2 L2.length c2]] W fun e w' => ∃ (a : Option Addr) (d : Nat) (a2 : Option Addr) (d2 : Nat) (cy : Array Value), Hid (cy = #[.bool x.d, .int .i64 x.f, .int .i64 x.o, .slice a L.length d, .slice a2 L2.length d2]) ∧ cy.size = 5 ∧ cy.all (·.oneCell') = true ∧ (Try.prog.info? 26).map (·.size) = some cy.size ∧ e = .returned (.agg cy) ∧ Hid (L.length ≤ d ∧ d ≤ maxLen) ∧ St Zf (ObA 5 (.slice a2 L2.length d2) L2 :: OlA ivl 3 (.slice a L.length d) L :: l) w w') := Lib.hid fun l W hst hW => by
    refine (copyNodT_any x A c w.heap.size L A2 c2 w.heap.size L2 W (hW.rl hrl (Nat.le_refl _)) hW.size (by omega) (hW.rb hrb (Nat.le_refl _)) hW.size (by omega)).mono ?_
    rintro e w' ⟨a, d, a2, d2, rfl, h1, h2, h3⟩
    exact ⟨a, d, a2, d2, _, Lib.hid rfl, rfl, by rw [← Array.all_toList]; rfl, by kernel_rfl, rfl, Lib.hid ⟨h1, h2⟩, addSt2 hW h3⟩
  have HP := fun (a : Option Addr) (d : Nat) (a2 : Option Addr) (d2 : Nat) (W : World) (h1 : RL ivl W W.heap.size a L) (h2 : RB W W.heap.size a2 L2) (h3 : L.length ≤ d) (h4 : d ≤ maxLen) => PutNodT_any x a d W.heap.size L a2 d2 W.heap.size L2 W h1 (Nat.le_refl _) h3 h4 h2 (Nat.le_refl _) hLm2
  rw [putNodTE_eq x L L2 hf ho hLi, putNodTB_eq x L L2 hf ho hLi] at HP
  have HR := fun (W : World) (l : List Ass) (hW : St Zf l w W) => refPutNodT_any x A c w.heap.size L A2 c2 w.heap.size L2 W (hW.rl hrl (Nat.le_refl _)) hW.size hc hcmx (hW.rb hrb (Nat.le_refl _)) hW.size
  have hbk := getNodT_back x L L2
  obtain ⟨cx, hcx⟩ : ∃ cx : Array Value, cx = #[.bool x.d, .int .i64 x.f, .int .i64 x.o, .slice A L.length c, .slice A2 L2.length c2] := ⟨_, rfl⟩
  obtain ⟨cz, hcz⟩ : ∃ cz : Array Value, cz = #[.bool false, .int .i64 0, .int .i64 0, .slice none 0 0, .slice none 0 0] := ⟨_, rfl⟩
  have sx : cx.size = 5 := by rw [hcx]; rfl
  have sz : cz.size = 5 := by rw [hcz]; rfl
  have hix : (Try.prog.info? 26).map (·.size) = some cx.size := by rw [sx]; kernel_rfl
  rw [← hcx] at HCO HR ⊢
  have h0 := (St.start Zf w).newBlk 26 cx
  obtain ⟨wo, hwo⟩ : ∃ wo, wo = w.alloc (.cells cx 26) := ⟨_, rfl⟩
  rw [← hwo] at h0
  have HSP := Lib.hid (speaks_any wo)
  have H0 := Lib.hid h0
  have Hwo := Lib.hid hwo
  have hlen : refNodTok x L L2 = true → (refNodB x L ++ L2).length ≤ 2000 := fun h => by
    have h1 := refNodB_len x L
    have h2 := (refNodTok_parts h).2.2.2
    rw [List.length_append]
    omega
  obtain ⟨bs, hbs⟩ : ∃ bs, bs = refNodB x L ++ L2 := ⟨_, rfl⟩
  unfold RefPut at HR
  rw [← hbs] at HP HR hbk hlen
  have hpt : refNodTok x L L2 = true → labR L = true := fun h => (refNodTok_parts h).2.2.1
  obtain ⟨ok, hok⟩ : ∃ ok, ok = refNodTok x L L2 := ⟨_, rfl⟩
  rw [← hok] at HP HR hbk hlen hpt
  have HCZ := Lib.hid hcz
  have HCX := Lib.hid hcx
  have HS := Lib.hid (fun (W : World) (l : List Ass) (hs : St Zf l w W) => (⟨hs.rl hrl (Nat.le_refl _), hs.rb hrb (Nat.le_refl _), hs.size⟩ : RL ivl W w.heap.size A L ∧ RB W w.heap.size A2 L2 ∧ w.heap.size ≤ W.heap.size))
  have HSM := Lib.hid (fun (a a2 : Option Addr) (d d2 : Nat) (W : World) (h1 : RL ivl W W.heap.size a L) (h2 : RB W W.heap.size a2 L2) (hp : RL ivl W w.heap.size A L ∧ RB W w.heap.size A2 L2 ∧ w.heap.size ≤ W.heap.size) => sameNodT_yes x a A a2 A2 d c d2 c2 W.heap.size w.heap.size W.heap.size w.heap.size L.length L2.length L L2 W rfl (by omega) rfl h1 (Nat.le_refl _) hp.1 hp.2.2 h2 (Nat.le_refl _) hp.2.1 hp.2.2)
  cases ok
  · simp only [Bool.false_eq_true, if_false] at HP HR
    have HP : Hid (∀ (a : Option Addr) (d : Nat) (a2 : Option Addr) (d2 : Nat) (W : World), RL ivl W W.heap.size a L → RB W W.heap.size a2 L2 → L.length ≤ d → d ≤ maxLen → Calls Try.prog 13 #[.agg #[.bool x.d, .int .i64 x.f, .int .i64 x.o, .slice a L.length d, .slice a2 L2.length d2]] W fun e w' => ∃ v, e = .returned (.tuple #[v, .int .i64 41]) ∧ OB w' W.heap.size 5 v [] ∧ Below W.heap.size W w') := Lib.hid fun a d a2 d2 W h1 h2 h3 h4 => HP a d a2 d2 W h1 h2 h3 h4
    have HR := Lib.hid HR
    clear hcx hcz hwo h0 hbs hok hbk hlen hrb hrl hc hcm hc2 hcm2 hLm2 hf ho hLi hcmx hpt
    go_enter Try.func4, Try.ntmps4
    go_upto_region 1 with fail
    rw [← Hwo.out]
    go_upto_region 4 with (first
      | (go_at_call 11; refine (HSP.out).mono ?_; rintro e w1 ⟨rfl, hb1⟩; have h1 := Lib.hid (H0.out.below hb1); have r1 := h1.out.blk; have HCO1 := Lib.hid (HCO.out _ w1 inferInstance h1.out); clear hb1)
      | (refine wpList_load_row rfl 26 _ rfl w.heap.size rfl 26 cx (0, 0) _ r1 Try.underlying26 rfl hix ?_)
      | (go_at_call 12; refine (HCO1.out).mono ?_; rintro e w2 ⟨a, d, a2, d2, cy, Hcy, sy, oy, hiy, rfl, Hd, h2⟩; have h3 := h2.newBlk 26 cz; have r3 := h3.blk; have h4 := Lib.hid (h3.setRow cy); clear h2 h3 r1)
      | (rw [← HCZ.out]; refine wpList_store_row rfl 26 _ _ rfl w2.heap.size cy rfl rfl 26 cz r3 hiy (by rw [sz, sy]) oy ?_))
    obtain ⟨w4, hw4⟩ : ∃ w4, w4 = (w2.alloc (.cells cz 26)).setRow w2.heap.size cy := ⟨_, rfl⟩
    obtain ⟨N3, hN3⟩ : ∃ n, n = w2.heap.size := ⟨_, rfl⟩
    rw [← hw4, ← hN3] at h4 ⊢
    clear hw4 r3 hN3
    have r4 := h4.out.blk
    have HP4 := HP.out a d a2 d2 w4 h4.out.bring2.ol.reads.2.1 h4.out.swap.ob.reads.2.1 Hd.out.1 Hd.out.2
    rw [← Hcy.out] at HP4
    have HP4 := Lib.hid HP4
    go_upto_region 6 with (first
      | (refine wpList_load_row rfl 26 _ rfl N3 rfl 26 cy (0, 0) _ r4 Try.underlying26 rfl hiy ?_)
      | (go_at_call 13; refine (HP4.out).mono ?_; rintro e w5 ⟨v5, rfl, ho5, hb5⟩; have h5 := Lib.hid (h4.out.newOb ho5 hb5); have r5 := h5.out.bring4.blk; have HR5 := Lib.hid (HR.out w5 _ h5.out); obtain ⟨A5, c5, rfl, -, -, -, -⟩ := ho5.form; clear ho5 hb5)
      | (refine wpList_load_row rfl 26 _ rfl w.heap.size rfl 26 cx (0, 0) _ r5 Try.underlying26 rfl hix ?_)
      | (go_at_call 14; refine (HR5.out).mono ?_; rintro e w6 ⟨v6, rfl, ho6, hb6⟩; have h6 := Lib.hid (h5.out.newOb ho6 hb6); obtain ⟨A6, c6, rfl, -, -, -, -⟩ := ho6.form; clear ho6 hb6 r5))
    clear r4
    have S6 := Lib.hid (same_yes A5 A6 0 c5 c6 _ _ [] _ h6.out.swap.ob.reads.2.1 h6.out.ob.reads.2.1 rfl (by decide))
    go_wp2_with (first
      | (go_at_call 15; refine (S6.out).mono ?_; rintro e w7 ⟨rfl, n7, hw7⟩; have h7 := h6.out.drewN n7; rw [← hw7] at h7; have k7 := h7.bring2; rw [Hcy.out] at k7; obtain ⟨c0, c1, c2', c3, c4⟩ := cellsnodT k7; have k8 := h7.bring5; rw [HCX.out] at k8; obtain ⟨d0, d1, d2', d3, d4⟩ := cellsnodT k8; have HS7 := Lib.hid (HSM.out a a2 d d2 w7 h7.bring4.ol.reads.2.1 h7.bring3.ob.reads.2.1 (HS.out _ _ h7)); have H7 := Lib.hid h7; clear h7 k7 k8 hw7)
      | (go_at_call 16; refine (HS7.out).mono ?_; rintro e w8 ⟨rfl, hb8⟩; have h8 := Lib.hid (H7.out.below hb8); clear hb8 c0 c1 c2' c3 c4 d0 d1 d2' d3 d4))
    go_ret
    exact ⟨rfl, h8.out.bel⟩
  · obtain ⟨hE, hV, hPl, hS⟩ := hbk rfl
    have hlb := hpt rfl
    have HLEN := Lib.hid (hlen rfl)
    have htk := pl8_take L hlb
    have hcut : cutLen (pl8 L) 8 = L.length := by
      have h1 := congrArg List.length htk
      rw [List.length_take, pl8_length] at h1
      have := cutLen_le (pl8 L) 8
      omega
    rw [hcut] at htk
    have HTK := Lib.hid htk
    simp only [if_true] at HP HR
    have HGT : Hid (∀ (A' : Option Addr) (cap' : Nat) (l : List Ass) (W : World), Stable (Sep l) → St Zf l w W → RB W W.heap.size A' bs → Calls Try.prog 17 #[.slice A' bs.length cap'] W fun e w' => ∃ (g : Nat) (a : Option Addr) (d : Nat) (cy : Array Value), Hid (cy = #[.bool x.d, .int .i64 x.f, .int .i64 x.o, .slice (some ⟨g, 0, none⟩) L.length 8, .slice a L2.length d]) ∧ cy.size = 5 ∧ cy.all (·.oneCell') = true ∧ (Try.prog.info? 26).map (·.size) = some cy.size ∧ e = .returned (.tuple #[.agg cy, .int .i64 0]) ∧ St Zf (BlkA g 3 (icells (pl8 L)) :: ObA 5 (.slice a L2.length d) L2 :: l) w w') := Lib.hid fun A' cap' l W hst hW hr => by
      refine (GetNodT_any A' cap' _ bs W hr (Nat.le_refl _) (by have := HLEN.out; omega)).mono ?_
      unfold NodTRead NodTReadB
      rw [hE, hV, hPl, hS, hcut]
      rintro e w' ⟨g, a, b, d, rfl, h1⟩
      obtain rfl := h1.swap.ob.reads.1
      exact ⟨g, a, d, _, Lib.hid rfl, rfl, by rw [← Array.all_toList]; rfl, by kernel_rfl, rfl, addSt2 hW h1⟩
    have HP : Hid (∀ (a : Option Addr) (d : Nat) (a2 : Option Addr) (d2 : Nat) (W : World), RL ivl W W.heap.size a L → RB W W.heap.size a2 L2 → L.length ≤ d → d ≤ maxLen → Calls Try.prog 13 #[.agg #[.bool x.d, .int .i64 x.f, .int .i64 x.o, .slice a L.length d, .slice a2 L2.length d2]] W fun e w' => ∃ v, e = .returned (.tuple #[v, .int .i64 0]) ∧ OB w' W.heap.size 5 v bs ∧ Below W.heap.size W w') := Lib.hid fun a d a2 d2 W h1 h2 h3 h4 => HP a d a2 d2 W h1 h2 h3 h4
    have HR := Lib.hid HR
    clear hcx hcz hwo h0 hbs hok hbk hlen hE hV hPl hS hrb hrl hc hcm hc2 hcm2 hLm2 hf ho hLi hcmx hpt hlb htk hcut
    go_enter Try.func4, Try.ntmps4
    go_upto_region 1 with fail
    rw [← Hwo.out]
    go_upto_region 4 with (first
      | (go_at_call 11; refine (HSP.out).mono ?_; rintro e w1 ⟨rfl, hb1⟩; have h1 := Lib.hid (H0.out.below hb1); have r1 := h1.out.blk; have HCO1 := Lib.hid (HCO.out _ w1 inferInstance h1.out); clear hb1)
      | (refine wpList_load_row rfl 26 _ rfl w.heap.size rfl 26 cx (0, 0) _ r1 Try.underlying26 rfl hix ?_)
      | (go_at_call 12; refine (HCO1.out).mono ?_; rintro e w2 ⟨a, d, a2, d2, cy, Hcy, sy, oy, hiy, rfl, Hd, h2⟩; have h3 := h2.newBlk 26 cz; have r3 := h3.blk; have h4 := Lib.hid (h3.setRow cy); clear h2 h3 r1)
      | (rw [← HCZ.out]; refine wpList_store_row rfl 26 _ _ rfl w2.heap.size cy rfl rfl 26 cz r3 hiy (by rw [sz, sy]) oy ?_))
    obtain ⟨w4, hw4⟩ : ∃ w4, w4 = (w2.alloc (.cells cz 26)).setRow w2.heap.size cy := ⟨_, rfl⟩
    obtain ⟨N3, hN3⟩ : ∃ n, n = w2.heap.size := ⟨_, rfl⟩
    rw [← hw4, ← hN3] at h4 ⊢
    clear hw4 r3 hN3
    have r4 := h4.out.blk
    have HP4 := HP.out a d a2 d2 w4 h4.out.bring2.ol.reads.2.1 h4.out.swap.ob.reads.2.1 Hd.out.1 Hd.out.2
    rw [← Hcy.out] at HP4
    have HP4 := Lib.hid HP4
    go_upto_region 6 with (first
      | (refine wpList_load_row rfl 26 _ rfl N3 rfl 26 cy (0, 0) _ r4 Try.underlying26 rfl hiy ?_)
      | (go_at_call 13; refine (HP4.out).mono ?_; rintro e w5 ⟨v5, rfl, ho5, hb5⟩; have h5 := Lib.hid (h4.out.newOb ho5 hb5); have r5 := h5.out.bring4.blk; have HR5 := Lib.hid (HR.out w5 _ h5.out); obtain ⟨A5, c5, rfl, -, -, -, -⟩ := ho5.form; clear ho5 hb5)
      | (refine wpList_load_row rfl 26 _ rfl w.heap.size rfl 26 cx (0, 0) _ r5 Try.underlying26 rfl hix ?_)
      | (go_at_call 14; refine (HR5.out).mono ?_; rintro e w6 ⟨v6, rfl, ho6, hb6⟩; have h6 := Lib.hid (h5.out.newOb ho6 hb6); obtain ⟨A6, c6, rfl, -, -, -, -⟩ := ho6.form; clear ho6 hb6 r5))
    clear r4
    have S6 := Lib.hid (same_yes A5 A6 bs.length c5 c6 _ _ bs _ h6.out.swap.ob.reads.2.1 h6.out.ob.reads.2.1 rfl (by have := HLEN.out; unfold maxLen; omega))
    go_upto_region 10 with (first
      | (go_at_call 15; refine (S6.out).mono ?_; rintro e w7 ⟨rfl, n7, hw7⟩; have h7 := h6.out.drewN n7; rw [← hw7] at h7; have k7 := h7.bring2; rw [Hcy.out] at k7; obtain ⟨c0, c1, c2', c3, c4⟩ := cellsnodT k7; have k8 := h7.bring5; rw [HCX.out] at k8; obtain ⟨d0, d1, d2', d3, d4⟩ := cellsnodT k8; have HS7 := Lib.hid (HSM.out a a2 d d2 w7 h7.bring4.ol.reads.2.1 h7.bring3.ob.reads.2.1 (HS.out _ _ h7)); have H7 := Lib.hid h7; clear h7 k7 k8 hw7)
      | (go_at_call 16; refine (HS7.out).mono ?_; rintro e w8 ⟨rfl, hb8⟩; have h8 := Lib.hid (H7.out.below hb8); clear hb8 c0 c1 c2' c3 c4 d0 d1 d2' d3 d4))
    have HG8 := Lib.hid (HGT.out A5 c5 _ w8 inferInstance h8.out h8.out.swap.ob.reads.2.1)
    go_upto_region 11 with (first
      | (go_at_call 17; refine (HG8.out).mono ?_; rintro e w9 ⟨g, a9, d9, cg, Hcg, sg, og, hig, rfl, h9⟩; have h10 := h9.newBlk 26 cz; have r10 := h10.blk; have h11 := Lib.hid (h10.setRow cg); clear h9 h10)
      | (rw [← HCZ.out]; refine wpList_store_row rfl 26 _ _ rfl w9.heap.size cg rfl rfl 26 cz r10 hig (by rw [sz, sg]) og ?_))
    obtain ⟨w11, hw11⟩ : ∃ w11, w11 = (w9.alloc (.cells cz 26)).setRow w9.heap.size cg := ⟨_, rfl⟩
    rw [← hw11] at h11 ⊢
    have k11 := h11.out
    rw [Hcg.out] at k11
    obtain ⟨c0, c1, c2', c3, c4⟩ := cellsnodT k11
    have k12 := h11.out.bring8
    rw [HCX.out] at k12
    obtain ⟨d0, d1, d2', d3, d4⟩ := cellsnodT k12
    have rlg : RL ivl w11 w11.heap.size (some ⟨g, 0, none⟩) L := by
      have := h11.out.swap.blk.rl.cut L.length
      rwa [HTK.out] at this
    have HS11 := Lib.hid (HSM.out (some ⟨g, 0, none⟩) a9 8 d9 w11 rlg h11.out.bring2.ob.reads.2.1 (HS.out _ _ h11.out))
    clear hw11 k11 k12 r10 rlg
    go_wp2_with (go_at_call 16; refine (HS11.out).mono ?_; rintro e w12 ⟨rfl, hb12⟩; have h12 := Lib.hid (h11.out.below hb12); clear hb12)
    go_ret
    exact ⟨rfl, h12.out.bel⟩

/-! ### THE ROW's STEP -/
theorem own : ownKnob Try.prog.godebug = none := by kernel_rfl
theorem laidOut : laidOutB Try.prog = true := by kernel_rfl

set_option maxRecDepth 100000 in
theorem contract (H : Type) (enc : TypeId × Value → H) (W : World) (base : Nat) (args : Array Value) (ds gs : List (DataW H)) (before : List MemPlace)
    (hval0 : ∀ (j : Nat) t v, Try.f4.params[j]? = some t → args[j]? = some v → Value.okWide Try.prog W .any base t v)
    (hW : DataW.Whole enc Try.prog Try.f4.params.toList Rows.rectwoNodesSpec.vars false W args.toList ds gs before)
    (hsz : (DataW.weightsEach Try.prog (Try.f4.params.toList ++ (OpenSpec.ofChange Rows.rectwoNodesSpec).bare.plain.varTypes Try.prog) (ds ++ gs)).all (· ≤ reachBytes) = true) :
    Calls Try.prog 4 args W fun e W' => ∃ v, e = .returned v ∧ Rows.rectwoNodesSpec.post enc Try.prog Try.f4 false true false false W args v W' := by
  have hval : ∀ (j : Nat) t v, Try.f4.params[j]? = some t → args[j]? = some v → Value.okWide Try.prog W .any base t v := hval0
  have hW' := hW
  obtain ⟨p, q, hA0, hV, rfl, hfz, hnd⟩ := hW
  have hA : DataW.TrodAll enc Try.prog W 0 (fun _ => true) true Try.f4.params.toList args.toList ds p := hA0
  rw [Try.params4] at hA hval
  obtain ⟨v0, vs0, d0, ds0, p0, q0, hargs, rfl, rfl, h0, r0⟩ := trodAll_cons hA
  obtain ⟨rfl, rfl, rfl⟩ := trodAll_nil r0
  obtain rfl : args = #[v0] := by cases args; simp_all
  obtain ⟨rfl, rfl⟩ := trodVars_none hV
  have k0 := h0
  have lt0 : ∀ x ∈ p0, x.block < W.heap.size := by obtain ⟨m, hm⟩ := k0; exact DataW.trod_lt m _ _ _ hm
  have w0 := reach_at hsz (j := 0) rfl rfl
  clear hA0 hval0 hsz
  obtain ⟨x0, A0, L0, c0, A20, L20, c20, rfl, hx0⟩ := open_nodT (hval 0 _ v0 rfl rfl) w0 h0 lt0
  refine (walk W hx0).mono fun e W' ⟨he, bel⟩ => ?_
  subst he
  exact ⟨_, rfl, _, _, _, [], _, [], hW', trodAll_mk1 (shut_bool Try.underlying4 _), (trodAll_cons_mk (Below.trod laidOut (by kernel_rfl) (of_decide_eq_true (by kernel_rfl)) k0 bel lt0) trodAll_mk0), rfl, bel.frame _, fun h => by cases h⟩

set_option maxRecDepth 100000 in
theorem lifted (os : Os) (started : os.Started) (H : Type) (enc : TypeId × Value → H) :
    ReturnsInHanded {} Try.checked os 4 .any (Rows.rectwoNodesSpec.pre6 enc Try.prog Try.f4 Rows.rectwoNodesRow.domain false) (Rows.rectwoNodesSpec.post enc Try.prog Try.f4 false true false false) := by
  refine returnsInHanded_of_change_sized (C := Try.checked) own started (by kernel_rfl) Try.func4
    (ChangeSpec.witness6 (enc := enc) (C := Try.checked) false ⟨#[], #[.agg #[.bool false, .int .i64 0, .int .i64 0, .slice none 0 0, .slice none 0 0]], []⟩ 8 (by kernel_rfl) (by kernel_rfl) (by kernel_rfl) (by kernel_rfl)) ?_
  intro W base args ds gs before hval hW _ hsz _
  exact contract H enc W base args ds gs before hval hW hsz

/-- THE STATEMENT -/
theorem proved : Rows.RectwoNodesSaid :=
  OpenClaim.holds_of_wide 4 Try.f4 rfl rfl rfl rfl rfl rfl rfl ⟨rfl, rfl, rfl, rfl, rfl⟩ rfl rfl rfl rfl rfl (by kernel_rfl) Try.func4 (by kernel_rfl)
    (of_decide_eq_true (by kernel_rfl)) (by unfold Func.isWrapper; rw [if_neg (of_decide_eq_false (by kernel_rfl))]; exact ⟨rfl, rfl⟩)
    (fun os started H enc _ => lifted os started H enc)
end Go.Proofs.Ytmiiogailnjfpaa.rectwoNodes
