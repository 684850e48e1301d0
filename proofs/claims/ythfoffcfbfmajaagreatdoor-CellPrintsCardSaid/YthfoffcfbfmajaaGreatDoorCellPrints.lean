/- Any value is printed, or refused, exactly as the document says, and stays as it was. The library's tables and errors, and the program's own table of the forms' beginnings, stand as the program's text lays them (the card ties them). -/
import Derived.Test.YthfoffcfbfmajaaGreatDoorOpen
import Derived.Test.YthfoffcfbfmajaaGreatDoorCards
import Derived.Test.YthfoffcfbfmajaaGreatDoorTie
import Derived.Deep.DeepHandedRow
import Derived.Lib.LaidTab
import Derived.Test.YthfoffcfbfmajaaGreatDoorCeRefPA
import Derived.Test.YthfoffcfbfmajaaGreatDoorCeSpeak
import Derived.Test.YthfoffcfbfmajaaGreatDoorCeOpen
import Derived.Test.YthfoffcfbfmajaaGreatDoorCeLaid
import Derived.Test.YthfoffcfbfmajaaGreatDoorValSameA
import Derived.Test.YthfoffcfbfmajaaGreatDoorValRefA
import Derived.Test.YthfoffcfbfmajaaGreatDoorValCopy
namespace Go.Proofs.YthfoffcfbfmajaaGreatDoor.cellPrints
open Go.ChangeShapes Go.WideShapes Go.ChangeAt Go.RowKit
open Go.ChangeMaps (open_string shut_string)
set_option linter.unusedVariables false
set_option linter.unusedSimpArgs false

set_option maxRecDepth 100000 in
set_option maxHeartbeats 2000000 in
theorem walk (w : World) (hW : CeW w) {v : Vv} {A : Option Addr} {c : Nat} {A' : Option Addr} {c' : Nat} (hx : VR w w.heap.size v (vagg v A c A' c')) :
    Calls Tryz.prog 3 #[vagg v A c A' c'] w fun e w' => e = .returned (.bool true) ∧ Below w.heap.size w w' := by
  have HSP : Hid (∀ w', Below w.heap.size w w' → Calls Tryz.prog 9 #[] w' fun e w2 => e = .returned (.bool true) ∧ Below w'.heap.size w' w2) := Lib.hid fun w' hb => speaks22_any w' (hW.below hb (Nat.le_refl _))
  have HCP := Lib.hid fun w' h1 h2 => refCopy_any v (vagg v A c A' c') w.heap.size w' h1 h2
  have HPR : Hid (∀ x w1, Below w.heap.size w w1 → VR w1 w1.heap.size v x → Calls Tryz.prog 11 #[x] w1 (PrPost v w1)) := Lib.hid fun x w1 hb h => Print_any v x _ w1 (hW.below hb (Nat.le_refl _)) h (Nat.le_refl _)
  have HRP := Lib.hid fun w' h1 h2 => refPrint_any v (vagg v A c A' c') w.heap.size w' h1 h2
  have HRS := Lib.hid fun w' y B' h1 h2 h3 => refSame_any v v y (vagg v A c A' c') B' w' h1 h2 h3
  rw [sameV_self] at HRS
  unfold PrPost at HPR
  unfold RfP at HRP
  unfold NewV at HCP
  unfold Says at HRS
  generalize mkS (printV v).1 = S at HPR HRP
  generalize (printV v).2 = E at HPR HRP
  have HX := Lib.hid hx
  have hss : (S.toList == S.toList) = true := by simp
  have hee : (E == E) = true := by simp
  obtain ⟨k, n, s, ns, ts⟩ := v
  unfold vagg at HCP HRP HRS HX ⊢
  simp only at HCP HRP HRS HX HPR ⊢
  clear hx hW
  go_enter Tryz.func3, Tryz.ntmps3
  go_wp2_with fail
  obtain ⟨wo, hwo⟩ : ∃ x, x = w.alloc (.cells #[.int .i64 k, .int .i64 n, .string s, .slice A ns.length c, .slice A' ts.length c'] 25) := ⟨_, rfl⟩
  rw [← hwo]
  have HBo : Hid (Blk wo w.heap.size 25 #[.int .i64 k, .int .i64 n, .string s, .slice A ns.length c, .slice A' ts.length c']) := Lib.hid (by rw [hwo]; exact Blk.new _ _ _)
  have HB0 : Hid (Below w.heap.size w wo) := Lib.hid (by rw [hwo]; exact (Below.refl w.heap.size w).alloc (Nat.le_refl _) _)
  clear hwo
  refine (HSP.out wo HB0.out).mono ?_
  rintro e w1 ⟨rfl, b1⟩
  have HB1 := Lib.hid (HB0.out.trans (b1.mono HB0.out.size))
  have HBo1 := Lib.hid (HBo.out.below b1 HBo.out.lt)
  obtain ⟨x0, x1, x2, x3, x4⟩ := box_cells HBo1.out
  clear b1
  go_wp2_with fail
  refine (HCP.out w1 (HX.out.below HB1.out) HB1.out.size).mono ?_
  rintro e w2 ⟨y, rfl, hy, b2⟩
  have HB2 := Lib.hid (HB1.out.trans (b2.mono HB1.out.size))
  have HBo2 := Lib.hid (HBo1.out.below b2 HBo1.out.lt)
  obtain ⟨D, d, D', d', rfl, -⟩ := id hy
  have HY := Lib.hid (hy.alloc (Nat.le_refl _) (.cells #[.int .i64 k, .int .i64 n, .string s, .slice D ns.length d, .slice D' ts.length d'] 25))
  unfold vagg at HY ⊢
  simp only at HY ⊢
  clear b2 hy x0 x1 x2 x3 x4
  go_wp2_with fail
  obtain ⟨wp, hwp⟩ : ∃ x, x = w2.alloc (.cells #[.int .i64 k, .int .i64 n, .string s, .slice D ns.length d, .slice D' ts.length d'] 25) := ⟨_, rfl⟩
  rw [← hwp] at HY ⊢
  have HBp : Hid (Blk wp w2.heap.size 25 #[.int .i64 k, .int .i64 n, .string s, .slice D ns.length d, .slice D' ts.length d']) := Lib.hid (by rw [hwp]; exact Blk.new _ _ _)
  have HB3 : Hid (Below w.heap.size w wp) := Lib.hid (by rw [hwp]; exact HB2.out.alloc HB2.out.size _)
  have HBo3 : Hid (Blk wp w.heap.size 25 #[.int .i64 k, .int .i64 n, .string s, .slice A ns.length c, .slice A' ts.length c']) := Lib.hid (by rw [hwp]; exact HBo2.out.alloc _)
  have hsp : w2.heap.size ≤ wp.heap.size := by rw [hwp, World.size_alloc]; exact Nat.le_succ _
  clear hwp
  refine (HPR.out _ wp HB3.out (HY.out.more hsp)).mono ?_
  rintro e w3 ⟨rfl, b3⟩
  have HB4 := Lib.hid (HB3.out.trans (b3.mono HB3.out.size))
  have HBo4 := Lib.hid (HBo3.out.below b3 HBo3.out.lt)
  have HBp4 := Lib.hid (HBp.out.below b3 HBp.out.lt)
  have HY4 := Lib.hid (HY.out.below (b3.mono hsp))
  have hsp4 : w2.heap.size ≤ w3.heap.size := Nat.le_trans hsp b3.size
  obtain ⟨x0, x1, x2, x3, x4⟩ := box_cells HBo4.out
  clear b3
  go_wp2_with fail
  refine (HRP.out w3 (HX.out.below HB4.out) HB4.out.size).mono ?_
  rintro e w4 ⟨rfl, b4⟩
  have HB5 := Lib.hid (HB4.out.trans (b4.mono HB4.out.size))
  have HY5 := Lib.hid (HY4.out.below (b4.mono hsp4))
  have hsp5 : w2.heap.size ≤ w4.heap.size := Nat.le_trans hsp4 b4.size
  have HBo5 := Lib.hid (HBo4.out.below b4 HBo4.out.lt)
  have HBp5 := Lib.hid (HBp4.out.below b4 HBp4.out.lt)
  clear b4 x0 x1 x2 x3 x4
  obtain ⟨x0, x1, x2, x3, x4⟩ := box_cells HBo5.out
  obtain ⟨y0, y1, y2, y3, y4⟩ := box_cells HBp5.out
  go_wp2_with fail
  refine (HRS.out w4 _ w2.heap.size HY5.out ((HX.out.below HB5.out).more HB2.out.size) hsp5).mono ?_
  rintro e w5 ⟨rfl, b5⟩
  have HB6 := Lib.hid (HB5.out.trans (b5.mono HB5.out.size))
  clear b5
  go_wp2
  go_ret
  exact ⟨rfl, HB6.out⟩

/-! ### THE ROW's STEP -/
theorem own : ownKnob Tryz.prog.godebug = none := by kernel_rfl
theorem laidOut : laidOutB Tryz.prog = true := by kernel_rfl

set_option maxRecDepth 100000 in
theorem contract (H : Type) (enc : TypeId × Value → H) (W : World) (base : Nat) (args : Array Value) (ds gs : List (DataW H)) (before : List MemPlace)
    (hval0 : ∀ (j : Nat) t v, Tryz.f3.params[j]? = some t → args[j]? = some v → Value.okWide Tryz.prog W .any base t v)
    (hW : DataW.Whole enc Tryz.prog Tryz.f3.params.toList Rows.cellPrintsSpec.vars false W args.toList ds gs before)
    (hsz : (DataW.weightsEach Tryz.prog (Tryz.f3.params.toList ++ (OpenSpec.ofChange Rows.cellPrintsSpec).bare.plain.varTypes Tryz.prog) (ds ++ gs)).all (· ≤ reachBytes) = true) (hL : laidMetH Tryz.prog Rows.cellPrintsRow.laid W) (hSh : W.ShapedOpen Tryz.prog) :
    Calls Tryz.prog 3 args W fun e W' => ∃ v, e = .returned v ∧ Rows.cellPrintsSpec.post enc Tryz.prog Tryz.f3 false true false false W args v W' := by
  have hval : ∀ (j : Nat) t v, Tryz.f3.params[j]? = some t → args[j]? = some v → Value.okWide Tryz.prog W .any base t v := hval0
  have hW' := hW
  obtain ⟨p, q, hA0, hV, rfl, hfz, hnd⟩ := hW
  have hA : DataW.TrodAll enc Tryz.prog W 0 (fun _ => true) true Tryz.f3.params.toList args.toList ds p := hA0
  rw [Tryz.params3] at hA hval
  obtain ⟨v0, vs0, d0, ds0, p0, q0, hargs, rfl, rfl, h0, r0⟩ := trodAll_cons hA
  obtain ⟨rfl, rfl, rfl⟩ := trodAll_nil r0
  obtain rfl : args = #[v0] := by cases args; simp_all
  obtain ⟨rfl, rfl⟩ := trodVars_none hV
  have k0 := h0
  have lt0 : ∀ x ∈ p0, x.block < W.heap.size := by obtain ⟨m, hm⟩ := k0; exact DataW.trod_lt m _ _ _ hm
  have w0 := reach_at hsz (j := 0) rfl rfl
  clear hA0 hval0 hsz
  obtain ⟨val0, A0, c0, B0, d0, rfl, hx0⟩ := open_value (hval 0 _ v0 rfl rfl) w0 h0 lt0
  refine (walk W (cew_of hL hSh) hx0).mono fun e W' ⟨he, bel⟩ => ?_
  subst he
  exact ⟨_, rfl, _, _, _, [], _, [], hW', trodAll_mk1 (shut_bool Tryz.underlying4 _), (trodAll_cons_mk (Below.trod laidOut (by kernel_rfl) (of_decide_eq_true (by kernel_rfl)) k0 bel lt0) trodAll_mk0), rfl, bel.frame _, fun h => by cases h⟩

theorem laid_met (os : Os) : laidMet Tryz.prog Rows.cellPrintsRow.laid ((laidWorld os).forCall (fun _ _ => 0) ⟨#[], #[.agg #[.int .i64 0, .int .i64 0, .string ⟨#[]⟩, .slice none 0 0, .slice none 0 0]], []⟩).memory :=
  laid_met0 os
theorem reads (os : Os) {H : Type} (enc : TypeId × Value → H) : ∃ places, DataW.whole enc Tryz.prog ((laidWorld os).forCall (fun _ _ => 0) ⟨#[], #[.agg #[.int .i64 0, .int .i64 0, .string ⟨#[]⟩, .slice none 0 0, .slice none 0 0]], []⟩).memory Tryz.f3.params.toList Rows.cellPrintsSpec.vars false (#[.agg #[.int .i64 0, .int .i64 0, .string ⟨#[]⟩, .slice none 0 0, .slice none 0 0]] : Array Value).toList 8 = some ([.agg [.lit (.int .i64 0), .lit (.int .i64 0), .lit (.string []), .nil, .nil]], [], places) :=
  ⟨[], by kernel_rfl⟩

set_option maxRecDepth 100000 in
theorem lifted (os : Os) (started : os.Started) (H : Type) (enc : TypeId × Value → H) (F : Stop.Interp) :
    ReturnsInHanded {} Tryz.checked os 3 .any ((OpenSpec.ofChange Rows.cellPrintsSpec).preRow enc Tryz.prog Tryz.f3 Rows.cellPrintsRow.domain false Rows.cellPrintsRow.laid) (((OpenSpec.ofChange Rows.cellPrintsSpec).at F).post enc Tryz.prog Tryz.f3 false true false false) := by
  obtain ⟨places, hx⟩ := reads os enc
  refine returnsInHanded_of_row (C := Tryz.checked) (s := (OpenSpec.ofChange Rows.cellPrintsSpec)) own started (by kernel_rfl) Tryz.func3
    (witness_row_at (enc := enc) (C := Tryz.checked) false (laidWorld os) #[.agg #[.int .i64 0, .int .i64 0, .string ⟨#[]⟩, .slice none 0 0, .slice none 0 0]] rfl (by kernel_rfl) (by kernel_rfl) (by kernel_rfl)
      (OpenSpec.preRow_of_cond 8 hx (by kernel_rfl) (fun k hk => by cases hk) (by kernel_rfl) (laid_met os))) ?_
  intro W base args ds gs before hval hW _ hcond hsz hL hSh _
  exact contract H enc W base args ds gs before hval hW hsz hL hSh

theorem said : Rows.CellPrintsSaid :=
  OpenClaim.holds_of_cond 3 Tryz.f3 rfl rfl rfl rfl rfl rfl rfl ⟨rfl, rfl, rfl, rfl, rfl⟩ rfl rfl rfl rfl rfl (by kernel_rfl) Tryz.func3 (by kernel_rfl)
    (of_decide_eq_true (by kernel_rfl)) (by unfold Func.isWrapper; rw [if_neg (of_decide_eq_false (by kernel_rfl))]; exact ⟨rfl, rfl⟩)
    (fun os started H enc _ F => by rw [OpenClaim.pre_eq_preRow]; exact lifted os started H enc F)

theorem noStandIn : ∀ t ∈ ([25] : List TypeId), Tryz.prog.wantsStandIn t = false := by
  intro t ht
  simp only [List.mem_cons, List.not_mem_nil, or_false] at ht
  rcases ht with rfl
  · exact (show Tryz.prog.wantsStandIn 25 = false by kernel_rfl)
theorem plain (f : FuncId) (fn : Func) (hf : Tryz.pinned.checked.prog.funcNamed "satchel/satchellaw22.CellPrints" = some f) (hfn : Tryz.pinned.checked.prog.funcs[f]? = some fn) :
    true = Tryz.pinned.checked.prog.looks [] ∧ ∀ (j : Nat) t, fn.params[j]? = some t → Tryz.pinned.checked.prog.wantsStandIn t = false := by
  obtain rfl : f = 3 := Option.some.inj ((show Tryz.prog.funcNamed "satchel/satchellaw22.CellPrints" = some 3 by kernel_rfl).symm.trans hf) |>.symm
  obtain rfl : fn = Tryz.f3 := (Option.some.inj (Tryz.func3.symm.trans hfn)).symm
  refine ⟨by kernel_rfl, fun j t ht => ?_⟩
  rw [Tryz.params3] at ht
  exact noStandIn t (by simpa using Array.mem_of_getElem? ht)

/-- THE CARD -/
theorem proved : Rows.CellPrintsCardSaid :=
  Claim7.holds_tied_plain_at .later [] _ _ _ _ said (fun _ h => by cases h) (by kernel_rfl) (fun _ h => by cases h) cellPrints_row_tie rfl ⟨rfl, rfl⟩ (by kernel_rfl) rfl plain (by kernel_rfl)
end Go.Proofs.YthfoffcfbfmajaaGreatDoor.cellPrints
