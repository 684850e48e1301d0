/- Any relationship record is written, or refused, exactly, and read again. -/
import Derived.Test.YtmiiogailnjfpaaOpen
import Derived.Test.YtmiiogailnjfpaaRows
import Derived.Test.YtmiiogailnjfpaaRdSpeak
import Derived.Test.YtmiiogailnjfpaaRdRefRelT
import Derived.Test.YtmiiogailnjfpaaRdSameRel
import Derived.Test.YtmiiogailnjfpaaRdOpen
import Derived.Laws.StructEq
import Derived.Deep.QuietTactic
import Derived.BigQuiet
import Derived.Deep.RegionHeld3
import Derived.Deep.Cut
namespace Go.Proofs.Ytmiiogailnjfpaa.rectwoRels
open Go.ChangeShapes Go.WideShapes Go.ChangeAt Go.RowKit
open Go.ChangeMaps (open_string shut_string)
set_option linter.unusedVariables false

set_option maxRecDepth 100000 in
set_option maxHeartbeats 4000000 in
theorem walk (w : World) {x : RelC} {A : Option Addr} {L : List Nat} {c : Nat} (hx : RelI x ∧ RB w w.heap.size A L ∧ L.length ≤ c ∧ c ≤ 140737488351232) : Calls Try.prog 6 #[.agg #[.bool x.lv, .int .i64 x.fr, .int .i64 x.to, .int .i64 x.fp, .int .i64 x.tp, .int .i64 x.fn, .int .i64 x.tn, .int .i64 x.ty, .int .i64 x.pr, .slice A L.length c]] w fun e w' => e = .returned (.bool true) ∧ Below w.heap.size w w' := by
  obtain ⟨hxi, hrb, hc, hcm⟩ := hx
  have hLm : L.length ≤ 140737488351232 := Nat.le_trans hc hcm
  have HRB := Lib.hid hrb
  have HCO : Hid (∀ W, RB W w.heap.size A L → w.heap.size ≤ W.heap.size → Calls Try.prog 21 #[.agg #[.bool x.lv, .int .i64 x.fr, .int .i64 x.to, .int .i64 x.fp, .int .i64 x.tp, .int .i64 x.fn, .int .i64 x.tn, .int .i64 x.ty, .int .i64 x.pr, .slice A L.length c]] W fun e w' => ∃ a d, e = .returned (.agg #[.bool x.lv, .int .i64 x.fr, .int .i64 x.to, .int .i64 x.fp, .int .i64 x.tp, .int .i64 x.fn, .int .i64 x.tn, .int .i64 x.ty, .int .i64 x.pr, .slice a L.length d]) ∧ St Zf [ObA 5 (.slice a L.length d) L] W w') := Lib.hid fun W h hB => copyRelT_any x A c w.heap.size L W h hB (by omega)
  have HP := fun (a : Option Addr) (d : Nat) (W : World) (h : RB W W.heap.size a L) => PutRelT_any x a d W.heap.size L W h (Nat.le_refl _) hLm
  rw [putRelTE_eq x hxi, putRelTB_eq x hxi] at HP
  have HR := fun (W : World) (h : RB W w.heap.size A L) (hB : w.heap.size ≤ W.heap.size) => refPutRelT_any x A c w.heap.size L W h hB
  have hbk := getRelT_back x hxi L
  obtain ⟨cx, hcx⟩ : ∃ cx : Array Value, cx = #[.bool x.lv, .int .i64 x.fr, .int .i64 x.to, .int .i64 x.fp, .int .i64 x.tp, .int .i64 x.fn, .int .i64 x.tn, .int .i64 x.ty, .int .i64 x.pr, .slice A L.length c] := ⟨_, rfl⟩
  obtain ⟨cz, hcz⟩ : ∃ cz : Array Value, cz = #[.bool false, .int .i64 0, .int .i64 0, .int .i64 0, .int .i64 0, .int .i64 0, .int .i64 0, .int .i64 0, .int .i64 0, .slice none 0 0] := ⟨_, rfl⟩
  have sx : cx.size = 10 := by rw [hcx]; rfl
  have sz : cz.size = 10 := by rw [hcz]; rfl
  have hix : (Try.prog.info? 45).map (·.size) = some cx.size := by rw [sx]; kernel_rfl
  rw [← hcx] at HCO HR ⊢
  have h0 := (St.start Zf w).newBlk 45 cx
  obtain ⟨wo, hwo⟩ : ∃ wo, wo = w.alloc (.cells cx 45) := ⟨_, rfl⟩
  rw [← hwo] at h0
  have HSP := Lib.hid (speaks_any wo)
  have H0 := Lib.hid h0
  have Hwo := Lib.hid hwo
  have hlen : relTok x L = true → (refRelB x ++ L).length ≤ 2000 := fun h => by
    have h1 := refRelB_short x
    have h2 := (relTok_parts h).2
    rw [List.length_append]
    omega
  obtain ⟨bs, hbs⟩ : ∃ bs, bs = refRelB x ++ L := ⟨_, rfl⟩
  unfold RefPut at HR
  rw [← hbs] at HP HR hbk hlen
  obtain ⟨ok, hok⟩ : ∃ ok, ok = relTok x L := ⟨_, rfl⟩
  rw [← hok] at HP HR hbk hlen
  have HCZ := Lib.hid hcz
  have HCX := Lib.hid hcx
  have HLM := Lib.hid hLm
  have HS := Lib.hid (fun (W : World) (l : List Ass) (hs : St Zf l w W) => (⟨hs.rb hrb (Nat.le_refl _), hs.size⟩ : RB W w.heap.size A L ∧ w.heap.size ≤ W.heap.size))
  cases ok
  · simp only [Bool.false_eq_true, if_false] at HP HR
    have HP : Hid (∀ (a : Option Addr) (d : Nat) (W : World), RB W W.heap.size a L → Calls Try.prog 20 #[.agg #[.bool x.lv, .int .i64 x.fr, .int .i64 x.to, .int .i64 x.fp, .int .i64 x.tp, .int .i64 x.fn, .int .i64 x.tn, .int .i64 x.ty, .int .i64 x.pr, .slice a L.length d]] W fun e w' => ∃ v, e = .returned (.tuple #[v, .int .i64 41]) ∧ OB w' W.heap.size 5 v [] ∧ Below W.heap.size W w') := Lib.hid fun a d W h => HP a d W h
    have HR := Lib.hid HR
    clear hcx hcz hwo h0 hbs hok hbk hlen sz hrb hc hcm hLm hxi
    go_enter Try.func6, Try.ntmps6
    go_upto_region 1 with fail
    rw [← Hwo.out]
    go_wp2_with (first
      | (go_at_call 11; refine (HSP.out).mono ?_; rintro e w1 ⟨rfl, hb1⟩; have h1 := Lib.hid (H0.out.below hb1); have r1 := h1.out.blk; have p1 := HS.out _ _ h1.out; clear hb1)
      | (refine wpList_load_row rfl 45 _ rfl w.heap.size rfl 45 cx (0, 0) _ r1 Try.underlying45 rfl hix ?_)
      | (go_at_call 21; refine (HCO.out _ p1.1 p1.2).mono ?_; rintro e w2 ⟨a2, e2, rfl, h2⟩; have h2 := Lib.hid (h1.out.addSt h2); have HP2 := Lib.hid (HP.out a2 e2 w2 h2.out.ob.reads.2.1); clear r1 p1)
      | (go_at_call 20; refine (HP2.out).mono ?_; rintro e w3 ⟨v3, rfl, ho3, hb3⟩; have h3 := Lib.hid (h2.out.newOb ho3 hb3); have r3 := h3.out.bring2.blk; have p3 := HS.out _ _ h3.out; obtain ⟨A3, c3, rfl, -, -, -, -⟩ := ho3.form; clear ho3 hb3)
      | (refine wpList_load_row rfl 45 _ rfl w.heap.size rfl 45 cx (0, 0) _ r3 Try.underlying45 rfl hix ?_)
      | (go_at_call 22; refine (HR.out _ p3.1 p3.2).mono ?_; rintro e w4 ⟨v4, rfl, ho4, hb4⟩; have h4 := Lib.hid (h3.out.newOb ho4 hb4); obtain ⟨A4, c4, rfl, -, -, -, -⟩ := ho4.form; clear ho4 hb4 r3 p3; have S4 := Lib.hid (same_yes A3 A4 0 c3 c4 _ _ [] _ h4.out.swap.ob.reads.2.1 h4.out.ob.reads.2.1 rfl (by decide)))
      | (go_at_call 15; refine (S4.out).mono ?_; rintro e w5 ⟨rfl, n5, hw5⟩; have h5 := Lib.hid (h4.out.drewN n5); rw [← hw5] at h5; clear hw5))
    go_ret
    exact ⟨rfl, h5.out.bel⟩
  · obtain ⟨hE, hV, hS⟩ := hbk rfl
    have HLEN := Lib.hid (hlen rfl)
    simp only [if_true] at HP HR
    have HGT : ∀ (A' : Option Addr) (cap' : Nat) (l : List Ass) (W : World), Stable (Sep l) → St Zf l w W → RB W W.heap.size A' bs → Hid (Calls Try.prog 23 #[.slice A' bs.length cap'] W fun e w' => ∃ (a : Option Addr) (d : Nat) (cy : Array Value), Hid (cy = #[.bool true, .int .i64 x.fr, .int .i64 x.to, .int .i64 x.fp, .int .i64 x.tp, .int .i64 x.fn, .int .i64 x.tn, .int .i64 x.ty, .int .i64 x.pr, .slice a L.length d]) ∧ cy.size = 10 ∧ cy.all (·.oneCell') = true ∧ (Try.prog.info? 45).map (·.size) = some cy.size ∧ e = .returned (.tuple #[.agg cy, .int .i64 0]) ∧ St Zf (ObA 5 (.slice a L.length d) L :: l) w w') := fun A' cap' l W hst hW hr => Lib.hid (by
      refine (GetRelT_any A' cap' _ bs W hr (Nat.le_refl _) (by have := HLEN.out; omega)).mono ?_
      unfold RelTRead RelTReadB
      rw [hE, hV, hS]
      rintro e w' ⟨a, b, d, rfl, h1⟩
      obtain rfl := h1.ob.reads.1
      exact ⟨a, d, _, Lib.hid rfl, rfl, by rw [← Array.all_toList]; rfl, by kernel_rfl, rfl, hW.addSt h1⟩)
    have HP : Hid (∀ (a : Option Addr) (d : Nat) (W : World), RB W W.heap.size a L → Calls Try.prog 20 #[.agg #[.bool x.lv, .int .i64 x.fr, .int .i64 x.to, .int .i64 x.fp, .int .i64 x.tp, .int .i64 x.fn, .int .i64 x.tn, .int .i64 x.ty, .int .i64 x.pr, .slice a L.length d]] W fun e w' => ∃ v, e = .returned (.tuple #[v, .int .i64 0]) ∧ OB w' W.heap.size 5 v bs ∧ Below W.heap.size W w') := Lib.hid fun a d W h => HP a d W h
    have HR := Lib.hid HR
    have HSM := Lib.hid (fun (a : Option Addr) (d : Nat) (W : World) (h1 : RB W W.heap.size a L) (h2 : RB W w.heap.size A L) (hB : w.heap.size ≤ W.heap.size) => sameRelT_yes ⟨true, x.fr, x.to, x.fp, x.tp, x.fn, x.tn, x.ty, x.pr⟩ a A d c W.heap.size w.heap.size L.length L W rfl h1 (Nat.le_refl _) h2 hB)
    clear hcx hcz hwo h0 hbs hok hbk hlen hE hV hS hrb hc hcm hLm hxi
    go_enter Try.func6, Try.ntmps6
    go_upto_region 1 with fail
    rw [← Hwo.out]
    go_upto_region 9 with (first
      | (go_at_call 11; refine (HSP.out).mono ?_; rintro e w1 ⟨rfl, hb1⟩; have h1 := Lib.hid (H0.out.below hb1); have r1 := h1.out.blk; have p1 := HS.out _ _ h1.out; clear hb1)
      | (refine wpList_load_row rfl 45 _ rfl w.heap.size rfl 45 cx (0, 0) _ r1 Try.underlying45 rfl hix ?_)
      | (go_at_call 21; refine (HCO.out _ p1.1 p1.2).mono ?_; rintro e w2 ⟨a2, e2, rfl, h2⟩; have h2 := Lib.hid (h1.out.addSt h2); have HP2 := Lib.hid (HP.out a2 e2 w2 h2.out.ob.reads.2.1); clear r1 p1)
      | (go_at_call 20; refine (HP2.out).mono ?_; rintro e w3 ⟨v3, rfl, ho3, hb3⟩; have h3 := Lib.hid (h2.out.newOb ho3 hb3); have r3 := h3.out.bring2.blk; have p3 := HS.out _ _ h3.out; obtain ⟨A3, c3, rfl, -, -, -, -⟩ := ho3.form; clear ho3 hb3)
      | (refine wpList_load_row rfl 45 _ rfl w.heap.size rfl 45 cx (0, 0) _ r3 Try.underlying45 rfl hix ?_)
      | (go_at_call 22; refine (HR.out _ p3.1 p3.2).mono ?_; rintro e w4 ⟨v4, rfl, ho4, hb4⟩; have h4 := Lib.hid (h3.out.newOb ho4 hb4); obtain ⟨A4, c4, rfl, -, -, -, -⟩ := ho4.form; clear ho4 hb4 r3 p3; have S4 := Lib.hid (same_yes A3 A4 bs.length c3 c4 _ _ bs _ h4.out.swap.ob.reads.2.1 h4.out.ob.reads.2.1 rfl (by have := HLEN.out; unfold maxLen; omega)))
      | (go_at_call 15; refine (S4.out).mono ?_; rintro e w5 ⟨rfl, n5, hw5⟩; have h5 := Lib.hid (h4.out.drewN n5); rw [← hw5] at h5; clear hw5))
    have HG5 := HGT A3 c3 _ w5 inferInstance h5.out h5.out.swap.ob.reads.2.1
    go_upto_region 10 with (first
      | (go_at_call 23; refine (HG5.out).mono ?_; rintro e w6 ⟨a6, e6, cy, Hcy, sy, oy, hiy, rfl, h6⟩; have h7 := h6.newBlk 45 cz; have r7 := h7.blk; have h8 := Lib.hid (h7.setRow cy); clear h6 h7)
      | (rw [← HCZ.out]; refine wpList_store_row rfl 45 _ _ rfl w6.heap.size cy rfl rfl 45 cz r7 hiy (by rw [sz, sy]) oy ?_))
    obtain ⟨w8, hw8⟩ : ∃ w8, w8 = (w6.alloc (.cells cz 45)).setRow w6.heap.size cy := ⟨_, rfl⟩
    rw [← hw8] at h8 ⊢
    clear hw8 r7 HG5
    have h8b := h8.out.bring5
    have k8 : w8.cell? ⟨w.heap.size, 0, none⟩ = some (.bool x.lv) := by rw [h8b.blk.cell 0, HCX.out]; rfl
    have f8 := h8b.blk.frozen 0
    have h9 := h8b.setBlk 0 (.bool true)
    rw [show cx.setIfInBounds 0 (.bool true) = #[.bool true, .int .i64 x.fr, .int .i64 x.to, .int .i64 x.fp, .int .i64 x.tp, .int .i64 x.fn, .int .i64 x.tn, .int .i64 x.ty, .int .i64 x.pr, .slice A L.length c] from by rw [HCX.out]; rfl] at h9
    have H9 := Lib.hid h9
    clear h8b h9
    go_upto_region 11 with fail
    obtain ⟨w9, hw9⟩ : ∃ w9, w9 = w8.setCell ⟨w.heap.size, 0, none⟩ (.bool true) := ⟨_, rfl⟩
    rw [← hw9] at H9 ⊢
    have h9 := H9.out.swap
    rw [Hcy.out] at h9
    obtain ⟨c0, c1, c2, c3, c4, c5, c6, c7, c8, c9⟩ := cellsrelT h9
    obtain ⟨d0, d1, d2, d3, d4, d5, d6, d7, d8, d9⟩ := cellsrelT h9.swap
    have p9 := HS.out _ _ H9.out
    have HS9 := Lib.hid (HSM.out a6 e6 w9 h9.drop.swap.ob.reads.2.1 p9.1 p9.2)
    clear h9 hw9 p9 k8 f8
    go_wp2_with (go_at_call 24; refine (HS9.out).mono ?_; rintro e w10 ⟨rfl, hb10⟩; have h10 := Lib.hid (H9.out.below hb10); clear hb10)
    go_ret
    exact ⟨rfl, h10.out.bel⟩

/-! ### THE ROW's STEP -/
theorem own : ownKnob Try.prog.godebug = none := by kernel_rfl
theorem laidOut : laidOutB Try.prog = true := by kernel_rfl

set_option maxRecDepth 100000 in
theorem contract (H : Type) (enc : TypeId × Value → H) (W : World) (base : Nat) (args : Array Value) (ds gs : List (DataW H)) (before : List MemPlace)
    (hval0 : ∀ (j : Nat) t v, Try.f6.params[j]? = some t → args[j]? = some v → Value.okWide Try.prog W .any base t v)
    (hW : DataW.Whole enc Try.prog Try.f6.params.toList Rows.rectwoRelsSpec.vars false W args.toList ds gs before)
    (hsz : (DataW.weightsEach Try.prog (Try.f6.params.toList ++ (OpenSpec.ofChange Rows.rectwoRelsSpec).bare.plain.varTypes Try.prog) (ds ++ gs)).all (· ≤ reachBytes) = true) :
    Calls Try.prog 6 args W fun e W' => ∃ v, e = .returned v ∧ Rows.rectwoRelsSpec.post enc Try.prog Try.f6 false true false false W args v W' := by
  have hval : ∀ (j : Nat) t v, Try.f6.params[j]? = some t → args[j]? = some v → Value.okWide Try.prog W .any base t v := hval0
  have hW' := hW
  obtain ⟨p, q, hA0, hV, rfl, hfz, hnd⟩ := hW
  have hA : DataW.TrodAll enc Try.prog W 0 (fun _ => true) true Try.f6.params.toList args.toList ds p := hA0
  rw [Try.params6] at hA hval
  obtain ⟨v0, vs0, d0, ds0, p0, q0, hargs, rfl, rfl, h0, r0⟩ := trodAll_cons hA
  obtain ⟨rfl, rfl, rfl⟩ := trodAll_nil r0
  obtain rfl : args = #[v0] := by cases args; simp_all
  obtain ⟨rfl, rfl⟩ := trodVars_none hV
  have k0 := h0
  have lt0 : ∀ x ∈ p0, x.block < W.heap.size := by obtain ⟨m, hm⟩ := k0; exact DataW.trod_lt m _ _ _ hm
  have w0 := reach_at hsz (j := 0) rfl rfl
  clear hA0 hval0 hsz
  obtain ⟨x0, A0, L0, c0, rfl, hx0⟩ := open_relT (hval 0 _ v0 rfl rfl) w0 h0 lt0
  refine (walk W hx0).mono fun e W' ⟨he, bel⟩ => ?_
  subst he
  exact ⟨_, rfl, _, _, _, [], _, [], hW', trodAll_mk1 (shut_bool Try.underlying4 _), (trodAll_cons_mk (Below.trod laidOut (by kernel_rfl) (of_decide_eq_true (by kernel_rfl)) k0 bel lt0) trodAll_mk0), rfl, bel.frame _, fun h => by cases h⟩

set_option maxRecDepth 100000 in
theorem lifted (os : Os) (started : os.Started) (H : Type) (enc : TypeId × Value → H) :
    ReturnsInHanded {} Try.checked os 6 .any (Rows.rectwoRelsSpec.pre6 enc Try.prog Try.f6 Rows.rectwoRelsRow.domain false) (Rows.rectwoRelsSpec.post enc Try.prog Try.f6 false true false false) := by
  refine returnsInHanded_of_change_sized (C := Try.checked) own started (by kernel_rfl) Try.func6
    (ChangeSpec.witness6 (enc := enc) (C := Try.checked) false ⟨#[], #[.agg #[.bool false, .int .i64 0, .int .i64 0, .int .i64 0, .int .i64 0, .int .i64 0, .int .i64 0, .int .i64 0, .int .i64 0, .slice none 0 0]], []⟩ 8 (by kernel_rfl) (by kernel_rfl) (by kernel_rfl) (by kernel_rfl)) ?_
  intro W base args ds gs before hval hW _ hsz _
  exact contract H enc W base args ds gs before hval hW hsz

/-- THE STATEMENT -/
theorem proved : Rows.RectwoRelsSaid :=
  OpenClaim.holds_of_wide 6 Try.f6 rfl rfl rfl rfl rfl rfl rfl ⟨rfl, rfl, rfl, rfl, rfl⟩ rfl rfl rfl rfl rfl (by kernel_rfl) Try.func6 (by kernel_rfl)
    (of_decide_eq_true (by kernel_rfl)) (by unfold Func.isWrapper; rw [if_neg (of_decide_eq_false (by kernel_rfl))]; exact ⟨rfl, rfl⟩)
    (fun os started H enc _ => lifted os started H enc)
end Go.Proofs.Ytmiiogailnjfpaa.rectwoRels
