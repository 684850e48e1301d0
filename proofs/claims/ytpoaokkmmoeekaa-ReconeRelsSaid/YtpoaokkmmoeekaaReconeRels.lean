/- Any rel record is written, or refused, exactly, and read again. -/
import Derived.Test.YtpoaokkmmoeekaaOpen
import Derived.Test.YtpoaokkmmoeekaaRows
import Derived.Test.YtpoaokkmmoeekaaRcEql
import Derived.Test.YtpoaokkmmoeekaaRcOpen
import Derived.Test.YtpoaokkmmoeekaaRcSpeak
import Derived.Test.YtpoaokkmmoeekaaRcPureRelA
import Derived.Laws.StructEq
import Derived.Deep.QuietTactic
import Derived.BigQuiet
import Derived.Deep.RegionHeld3
import Derived.Deep.Cut
namespace Go.Proofs.Ytpoaokkmmoeekaa.reconeRels
open Go.ChangeShapes Go.WideShapes Go.ChangeAt Go.RowKit
open Go.ChangeMaps (open_string shut_string)
set_option linter.unusedVariables false

set_option maxRecDepth 100000 in
set_option maxHeartbeats 4000000 in
theorem walk (w : World) {x : RelC} (hx : RelI x) : Calls Try.prog 5 #[.agg #[.bool x.lv, .int .i64 x.fr, .int .i64 x.to, .int .i64 x.fp, .int .i64 x.tp, .int .i64 x.fn, .int .i64 x.tn, .int .i64 x.ty, .int .i64 x.pr]] w fun e w' => e = .returned (.bool true) ∧ Below w.heap.size w w' := by
  have HP := fun w1 => PutRel_any x w1
  rw [putRelE_eq x hx, putRelB_eq x hx] at HP
  have HR := fun w1 => refPutRel_any x w1
  have HEQ := fun w1 => rel_eql ({x with lv := true}) w1
  have HG := fun w1 (v : Value) (h : St Zf [] w w1) => h
  have hbk := getRel_back x hx
  obtain ⟨cx, hcx⟩ : ∃ cx : Array Value, cx = #[.bool x.lv, .int .i64 x.fr, .int .i64 x.to, .int .i64 x.fp, .int .i64 x.tp, .int .i64 x.fn, .int .i64 x.tn, .int .i64 x.ty, .int .i64 x.pr] := ⟨_, rfl⟩
  obtain ⟨cy, hcy⟩ : ∃ cy : Array Value, cy = #[.bool true, .int .i64 x.fr, .int .i64 x.to, .int .i64 x.fp, .int .i64 x.tp, .int .i64 x.fn, .int .i64 x.tn, .int .i64 x.ty, .int .i64 x.pr] := ⟨_, rfl⟩
  obtain ⟨cz, hcz⟩ : ∃ cz : Array Value, cz = #[.bool false, .int .i64 0, .int .i64 0, .int .i64 0, .int .i64 0, .int .i64 0, .int .i64 0, .int .i64 0, .int .i64 0] := ⟨_, rfl⟩
  have sx : cx.size = 9 := by rw [hcx]; rfl
  have sy : cy.size = 9 := by rw [hcy]; rfl
  have sz : cz.size = 9 := by rw [hcz]; rfl
  have oy : cy.all (·.oneCell') = true := by rw [hcy, ← Array.all_toList]; rfl
  have hix : (Try.prog.info? 44).map (·.size) = some cx.size := by rw [sx]; kernel_rfl
  have hiy : (Try.prog.info? 44).map (·.size) = some cy.size := by rw [sy]; kernel_rfl
  simp only at HEQ
  rw [← hcy] at HEQ
  rw [← hcx] at HP HR ⊢
  have h0 := (St.start Zf w).newBlk 44 cx
  obtain ⟨wo, hwo⟩ : ∃ wo, wo = w.alloc (.cells cx 44) := ⟨_, rfl⟩
  rw [← hwo] at h0
  have HSP := Lib.hid (speaks_any wo)
  have H0 := Lib.hid h0
  have Hwo := Lib.hid hwo
  have hlen : (refRelB x).length ≤ 1000 := refRelB_short x
  obtain ⟨bs, hbs⟩ : ∃ bs, bs = refRelB x := ⟨_, rfl⟩
  unfold RefPut at HR
  rw [← hbs] at HP HR hbk hlen
  obtain ⟨ok, hok⟩ : ∃ ok, ok = refRelOk x := ⟨_, rfl⟩
  rw [← hok] at HP HR hbk
  have HLEN := Lib.hid hlen
  have HCZ := Lib.hid hcz
  cases ok
  · simp only [Bool.false_eq_true, if_false] at HP HR
    have HP := Lib.hid HP
    have HR := Lib.hid HR
    clear hcx hcy hcz hwo h0 hbs hok hlen hbk HEQ HG sy sz oy hiy
    go_enter Try.func5, Try.ntmps5
    go_upto_region 1 with fail
    rw [← Hwo.out]
    go_wp2_with (first
      | (go_at_call 10; refine (HSP.out).mono ?_; rintro e w1 ⟨rfl, hb1⟩; have h1 := Lib.hid (H0.out.below hb1); have r1 := h1.out.blk; clear hb1)
      | (refine wpList_load_row rfl 44 _ rfl w.heap.size rfl 44 cx (0, 0) _ r1 Try.underlying44 rfl hix ?_)
      | (go_at_call 18; refine (HP.out _).mono ?_; rintro e w2 ⟨v2, rfl, ho2, hb2⟩; have h2 := Lib.hid (h1.out.newOb ho2 hb2); have r2 := h2.out.swap.blk; obtain ⟨A2, c2, rfl, -, -, -, -⟩ := ho2.form; clear ho2 hb2 r1)
      | (refine wpList_load_row rfl 44 _ rfl w.heap.size rfl 44 cx (0, 0) _ r2 Try.underlying44 rfl hix ?_)
      | (go_at_call 19; refine (HR.out _).mono ?_; rintro e w3 ⟨v3, rfl, ho3, hb3⟩; have h3 := Lib.hid (h2.out.newOb ho3 hb3); obtain ⟨A3, c3, rfl, -, -, -, -⟩ := ho3.form; clear ho3 hb3 r2; have S3 := Lib.hid (same_yes A2 A3 0 c2 c3 _ _ [] _ h3.out.swap.ob.reads.2.1 h3.out.ob.reads.2.1 rfl (by decide)))
      | (go_at_call 13; refine (S3.out).mono ?_; rintro e w4 ⟨rfl, n4, hw4⟩; have h4 := Lib.hid (h3.out.drewN n4); rw [← hw4] at h4; clear hw4))
    go_ret
    exact ⟨rfl, h4.out.bel⟩
  · obtain ⟨hE, hV⟩ := hbk rfl
    simp only [if_true] at HP HR
    have HGT := fun (A : Option Addr) (cap B : Nat) (w1 : World) (hr : RB w1 B A bs) (hB : B ≤ w1.heap.size) => GetRel_any A cap B bs w1 hr hB (by omega)
    unfold RelRead RelReadB at HGT
    rw [hE, hV] at HGT
    simp only [if_true] at HGT
    rw [← hcy] at HGT
    have HP := Lib.hid HP
    have HR := Lib.hid HR
    have HGT := Lib.hid HGT
    have HCX := Lib.hid hcx
    have HCY := Lib.hid hcy
    clear hcx hcy hcz hwo h0 hbs hok hlen hbk HG hE hV
    go_enter Try.func5, Try.ntmps5
    go_upto_region 1 with fail
    rw [← Hwo.out]
    go_upto_region 9 with (first
      | (go_at_call 10; refine (HSP.out).mono ?_; rintro e w1 ⟨rfl, hb1⟩; have h1 := Lib.hid (H0.out.below hb1); have r1 := h1.out.blk; clear hb1)
      | (refine wpList_load_row rfl 44 _ rfl w.heap.size rfl 44 cx (0, 0) _ r1 Try.underlying44 rfl hix ?_)
      | (go_at_call 18; refine (HP.out _).mono ?_; rintro e w2 ⟨v2, rfl, ho2, hb2⟩; have h2 := Lib.hid (h1.out.newOb ho2 hb2); have r2 := h2.out.swap.blk; obtain ⟨A2, c2, rfl, -, -, -, -⟩ := ho2.form; clear ho2 hb2 r1)
      | (refine wpList_load_row rfl 44 _ rfl w.heap.size rfl 44 cx (0, 0) _ r2 Try.underlying44 rfl hix ?_)
      | (go_at_call 19; refine (HR.out _).mono ?_; rintro e w3 ⟨v3, rfl, ho3, hb3⟩; have h3 := Lib.hid (h2.out.newOb ho3 hb3); obtain ⟨A3, c3, rfl, -, -, -, -⟩ := ho3.form; clear ho3 hb3 r2; have S3 := Lib.hid (same_yes A2 A3 bs.length c2 c3 _ _ bs _ h3.out.swap.ob.reads.2.1 h3.out.ob.reads.2.1 rfl (by have := HLEN.out; unfold maxLen; omega)))
      | (go_at_call 13; refine (S3.out).mono ?_; rintro e w4 ⟨rfl, n4, hw4⟩; have h4 := Lib.hid (h3.out.drewN n4); rw [← hw4] at h4; clear hw4))
    have HG4 := Lib.hid (HGT.out A2 c2 w4.heap.size w4 h4.out.swap.ob.reads.2.1 (Nat.le_refl _))
    go_upto_region 10 with (first
      | (go_at_call 20; refine (HG4.out).mono ?_; rintro e w5 ⟨rfl, h5⟩; have h6 := (h4.out.below h5.bel).newBlk 44 cz; have r6 := h6.blk; have h7 := Lib.hid (h6.setRow cy); clear h5 h6)
      | (rw [← HCZ.out]; refine wpList_store_row rfl 44 _ _ rfl w5.heap.size cy rfl rfl 44 cz r6 hiy (by rw [sz, sy]) oy ?_))
    obtain ⟨w8, hw8⟩ : ∃ w8, w8 = (w5.alloc (.cells cz 44)).setRow w5.heap.size cy := ⟨_, rfl⟩
    rw [← hw8] at h7 ⊢
    clear hw8 r6
    have d8 : w8.cell? ⟨w.heap.size, 0, none⟩ = some (.bool x.lv) := by rw [h7.out.bring3.blk.cell 0, HCX.out]; rfl
    have f8 := h7.out.bring3.blk.frozen 0
    have h9 := h7.out.bring3.setBlk 0 (.bool true)
    rw [show cx.setIfInBounds 0 (.bool true) = cy from by rw [HCX.out, HCY.out]; rfl] at h9
    go_upto_region 11 with fail
    obtain ⟨w9, hw9⟩ : ∃ w9, w9 = w8.setCell ⟨w.heap.size, 0, none⟩ (.bool true) := ⟨_, rfl⟩
    rw [← hw9] at h9 ⊢
    have H9 := Lib.hid h9
    rw [HCY.out] at h9
    obtain ⟨c0, c1, c2, c3, c4, c5, c6, c7, c8⟩ := cellsrel h9
    obtain ⟨d0, d1, d2, d3, d4, d5, d6, d7, d8⟩ := cellsrel h9.swap
    clear h9 hw9 HEQ
    go_wp2
    go_ret
    exact ⟨rfl, H9.out.bel⟩

/-! ### THE ROW's STEP -/
theorem own : ownKnob Try.prog.godebug = none := by kernel_rfl
theorem laidOut : laidOutB Try.prog = true := by kernel_rfl

set_option maxRecDepth 100000 in
theorem contract (H : Type) (enc : TypeId × Value → H) (W : World) (base : Nat) (args : Array Value) (ds gs : List (DataW H)) (before : List MemPlace)
    (hval0 : ∀ (j : Nat) t v, Try.f5.params[j]? = some t → args[j]? = some v → Value.okWide Try.prog W .any base t v)
    (hW : DataW.Whole enc Try.prog Try.f5.params.toList Rows.reconeRelsSpec.vars false W args.toList ds gs before)
    (hsz : (DataW.weightsEach Try.prog (Try.f5.params.toList ++ (OpenSpec.ofChange Rows.reconeRelsSpec).bare.plain.varTypes Try.prog) (ds ++ gs)).all (· ≤ reachBytes) = true) :
    Calls Try.prog 5 args W fun e W' => ∃ v, e = .returned v ∧ Rows.reconeRelsSpec.post enc Try.prog Try.f5 false true false false W args v W' := by
  have hval : ∀ (j : Nat) t v, Try.f5.params[j]? = some t → args[j]? = some v → Value.okWide Try.prog W .any base t v := hval0
  have hW' := hW
  obtain ⟨p, q, hA0, hV, rfl, hfz, hnd⟩ := hW
  have hA : DataW.TrodAll enc Try.prog W 0 (fun _ => true) true Try.f5.params.toList args.toList ds p := hA0
  rw [Try.params5] at hA hval
  obtain ⟨v0, vs0, d0, ds0, p0, q0, hargs, rfl, rfl, h0, r0⟩ := trodAll_cons hA
  obtain ⟨rfl, rfl, rfl⟩ := trodAll_nil r0
  obtain rfl : args = #[v0] := by cases args; simp_all
  obtain ⟨rfl, rfl⟩ := trodVars_none hV
  have k0 := h0
  have lt0 : ∀ x ∈ p0, x.block < W.heap.size := by obtain ⟨m, hm⟩ := k0; exact DataW.trod_lt m _ _ _ hm
  have w0 := reach_at hsz (j := 0) rfl rfl
  clear hA0 hval0 hsz
  obtain ⟨x0, rfl, hx0⟩ := open_rel (hval 0 _ v0 rfl rfl) w0 h0 lt0
  refine (walk W hx0).mono fun e W' ⟨he, bel⟩ => ?_
  subst he
  exact ⟨_, rfl, _, _, _, [], _, [], hW', trodAll_mk1 (shut_bool Try.underlying4 _), (trodAll_cons_mk (Below.trod laidOut (by kernel_rfl) (of_decide_eq_true (by kernel_rfl)) k0 bel lt0) trodAll_mk0), rfl, bel.frame _, fun h => by cases h⟩

set_option maxRecDepth 100000 in
theorem lifted (os : Os) (started : os.Started) (H : Type) (enc : TypeId × Value → H) :
    ReturnsInHanded {} Try.checked os 5 .any (Rows.reconeRelsSpec.pre6 enc Try.prog Try.f5 Rows.reconeRelsRow.domain false) (Rows.reconeRelsSpec.post enc Try.prog Try.f5 false true false false) := by
  refine returnsInHanded_of_change_sized (C := Try.checked) own started (by kernel_rfl) Try.func5
    (ChangeSpec.witness6 (enc := enc) (C := Try.checked) false ⟨#[], #[.agg #[.bool false, .int .i64 0, .int .i64 0, .int .i64 0, .int .i64 0, .int .i64 0, .int .i64 0, .int .i64 0, .int .i64 0]], []⟩ 8 (by kernel_rfl) (by kernel_rfl) (by kernel_rfl) (by kernel_rfl)) ?_
  intro W base args ds gs before hval hW _ hsz _
  exact contract H enc W base args ds gs before hval hW hsz

/-- THE STATEMENT -/
theorem proved : Rows.ReconeRelsSaid :=
  OpenClaim.holds_of_wide 5 Try.f5 rfl rfl rfl rfl rfl rfl rfl ⟨rfl, rfl, rfl, rfl, rfl⟩ rfl rfl rfl rfl rfl (by kernel_rfl) Try.func5 (by kernel_rfl)
    (of_decide_eq_true (by kernel_rfl)) (by unfold Func.isWrapper; rw [if_neg (of_decide_eq_false (by kernel_rfl))]; exact ⟨rfl, rfl⟩)
    (fun os started H enc _ => lifted os started H enc)
end Go.Proofs.Ytpoaokkmmoeekaa.reconeRels
