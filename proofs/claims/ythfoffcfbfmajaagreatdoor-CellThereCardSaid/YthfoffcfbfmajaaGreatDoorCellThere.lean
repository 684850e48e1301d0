/- A right value that is printed is read again, for every value. The library's tables and errors, and the program's own table of the forms' beginnings, stand as the program's text lays them (the card ties them). -/
import Derived.Test.YthfoffcfbfmajaaGreatDoorOpen
import Derived.Test.YthfoffcfbfmajaaGreatDoorCards
import Derived.Test.YthfoffcfbfmajaaGreatDoorTie
import Derived.Deep.DeepHandedRow
import Derived.Lib.LaidTab
import Derived.Test.YthfoffcfbfmajaaGreatDoorCeSpeak
import Derived.Test.YthfoffcfbfmajaaGreatDoorCeOpen
import Derived.Test.YthfoffcfbfmajaaGreatDoorCeLaid
import Derived.Test.YthfoffcfbfmajaaGreatDoorValSameA
import Derived.Test.YthfoffcfbfmajaaGreatDoorValRefA
import Derived.Test.YthfoffcfbfmajaaGreatDoorValCopy
namespace Go.Proofs.YthfoffcfbfmajaaGreatDoor.cellThere
open Go.ChangeShapes Go.WideShapes Go.ChangeAt Go.RowKit
open Go.ChangeMaps (open_string shut_string)
set_option linter.unusedVariables false
set_option linter.unusedSimpArgs false

set_option maxRecDepth 100000 in
set_option maxHeartbeats 2000000 in
theorem walk (w : World) (hW : CeW w) {v : Vv} {A : Option Addr} {c : Nat} {A' : Option Addr} {c' : Nat} (hx : VR w w.heap.size v (vagg v A c A' c')) :
    Calls Tryz.prog 5 #[vagg v A c A' c'] w fun e w' => e = .returned (.bool true) ∧ Below w.heap.size w w' := by
  have hok := hx.ok
  have HW := Lib.hid hW
  have HSP : Hid (∀ w', Below w.heap.size w w' → Calls Tryz.prog 9 #[] w' fun e w2 => e = .returned (.bool true) ∧ Below w'.heap.size w' w2) := Lib.hid fun w' hb => speaks22_any w' (hW.below hb (Nat.le_refl _))
  have HRC := Lib.hid fun w' h1 h2 => refCheck_any v (vagg v A c A' c') w.heap.size w' h1 h2
  have HCP := Lib.hid fun w' h1 h2 => refCopy_any v (vagg v A c A' c') w.heap.size w' h1 h2
  have HPR := Lib.hid fun x B w' h0 h1 h2 => Print_any v x B w' h0 h1 h2
  have HRS := Lib.hid fun w' y B' h1 h2 h3 => refSame_any v v (vagg v A c A' c') y B' w' h1 h2 h3
  rw [sameV_self] at HRS
  unfold PrPost at HPR
  unfold NewV at HCP
  unfold Told at HRC
  unfold Says at HRS
  obtain ⟨E, hE'⟩ : ∃ E, E = chk v := ⟨_, rfl⟩
  rw [← hE'] at HRC
  by_cases hE : E = 0
  case neg =>
    have hne : (E != 0) = true := by simpa using hE
    obtain ⟨k, n, s, ns, ts⟩ := v
    unfold vagg at hx HRC ⊢
    simp only at hx HRC ⊢
    have HX := Lib.hid hx
    clear hE hE' HCP HRS HPR hx hW hok
    go_enter Tryz.func5, Tryz.ntmps5
    go_wp2_with fail
    obtain ⟨wo, hwo⟩ : ∃ x, x = w.alloc (.cells #[.int .i64 k, .int .i64 n, .string s, .slice A ns.length c, .slice A' ts.length c'] 25) := ⟨_, rfl⟩
    rw [← hwo]
    have HBo : Hid (Blk wo w.heap.size 25 #[.int .i64 k, .int .i64 n, .string s, .slice A ns.length c, .slice A' ts.length c']) := Lib.hid (by rw [hwo]; exact Blk.new _ _ _)
    have HB0 : Hid (Below w.heap.size w wo) := Lib.hid (by rw [hwo]; exact (Below.refl w.heap.size w).alloc (Nat.le_refl _) _)
    clear hwo
    refine (HSP.out wo HB0.out).mono ?_
    rintro e w1 ⟨rfl, b1⟩
    have HB1 := Lib.hid (HB0.out.trans (b1.mono HB0.out.size))
    obtain ⟨x0, x1, x2, x3, x4⟩ := box_cells (HBo.out.below b1 HBo.out.lt)
    clear b1
    go_wp2_with fail
    refine (HRC.out w1 (HX.out.below HB1.out) HB1.out.size).mono ?_
    rintro e w2 ⟨rfl, b2⟩
    have HB2 := Lib.hid (HB1.out.trans (b2.mono HB1.out.size))
    clear b2
    go_wp2
    go_ret
    exact ⟨rfl, HB2.out⟩
  subst hE
  have hc0 : chk v = 0 := hE'.symm
  rw [printV_ok hc0] at HPR
  have HPA : Hid (∀ w', Below w.heap.size w w' → Calls Tryz.prog 14 #[.string (mkS (begB v.k ++ fmtV v))] w' fun e w2 => ∃ A c A' c', e = .returned (.tuple #[vagg v A c A' c', .int .i64 0]) ∧ VR w2 w2.heap.size v (vagg v A c A' c') ∧ Below w'.heap.size w' w2) := Lib.hid fun w' hb => by
    have hl := fmtV_len hok hc0
    have hb4 := begB_len v.k
    have h := Parse_any (begB v.k ++ fmtV v) w' (hW.below hb (Nat.le_refl _)) (by rw [List.length_append]; omega)
    rw [parseV_back hok hc0] at h
    exact h.mono fun e w2 ⟨A, c, A', c', he, hs⟩ => ⟨A, c, A', c', he, vr_of hs hok, hs.bel⟩
  obtain ⟨S, hS⟩ : ∃ S, S = mkS (begB v.k ++ fmtV v) := ⟨_, rfl⟩
  rw [← hS] at HPA
  simp only [← hS] at HPR
  have HX := Lib.hid hx
  have HPR2 : Hid (∀ x w1, Below w.heap.size w w1 → VR w1 w1.heap.size v x → Calls Tryz.prog 11 #[x] w1 fun e w2 => e = .returned (.tuple #[.string S, .int .i64 0]) ∧ Below w1.heap.size w1 w2) := Lib.hid fun x w1 hb h => HPR.out x _ w1 (HW.out.below hb (Nat.le_refl _)) h (Nat.le_refl _)
  obtain ⟨k, n, s, ns, ts⟩ := v
  unfold vagg at HRC HCP HPA HRS HX ⊢
  simp only at HRC HCP HPA HRS HX ⊢
  clear hS hE' hc0 hx hok HPR hW
  go_enter Tryz.func5, Tryz.ntmps5
  go_wp2_with fail
  obtain ⟨wo, hwo⟩ : ∃ x, x = w.alloc (.cells #[.int .i64 k, .int .i64 n, .string s, .slice A ns.length c, .slice A' ts.length c'] 25) := ⟨_, rfl⟩
  rw [← hwo]
  have HBo : Hid (Blk wo w.heap.size 25 #[.int .i64 k, .int .i64 n, .string s, .slice A ns.length c, .slice A' ts.length c']) := Lib.hid (by rw [hwo]; exact Blk.new _ _ _)
  have HB0 : Hid (Below w.heap.size w wo) := Lib.hid (by rw [hwo]; exact (Below.refl w.heap.size w).alloc (Nat.le_refl _) _)
  clear hwo
  refine (HSP.out wo HB0.out).mono ?_
  rintro e w1 ⟨rfl, b1⟩
  have HB1 := Lib.hid (HB0.out.trans (b1.mono HB0.out.size))
  have HBo1 := Lib.hid (HBo.out.below b1 HBo.out.lt)
  obtain ⟨x0, x1, x2, x3, x4⟩ := box_cells HBo1.out
  clear b1
  go_wp2_with fail
  refine (HRC.out w1 (HX.out.below HB1.out) HB1.out.size).mono ?_
  rintro e w2 ⟨rfl, b2⟩
  have HB2 := Lib.hid (HB1.out.trans (b2.mono HB1.out.size))
  have HBo2 := Lib.hid (HBo1.out.below b2 HBo1.out.lt)
  clear b2 x0 x1 x2 x3 x4
  obtain ⟨x0, x1, x2, x3, x4⟩ := box_cells HBo2.out
  go_wp2_with fail
  refine (HCP.out w2 (HX.out.below HB2.out) HB2.out.size).mono ?_
  rintro e w3 ⟨y, rfl, hy, b3⟩
  have HB3 := Lib.hid (HB2.out.trans (b3.mono HB2.out.size))
  have HBo3 := Lib.hid (HBo2.out.below b3 HBo2.out.lt)
  have HY := Lib.hid hy
  clear b3 hy x0 x1 x2 x3 x4
  go_wp2_with fail
  refine (HPR2.out y w3 HB3.out HY.out).mono ?_
  rintro e w4 ⟨rfl, b4⟩
  have HB4 := Lib.hid (HB3.out.trans (b4.mono HB3.out.size))
  have HBo4 := Lib.hid (HBo3.out.below b4 HBo3.out.lt)
  clear b4
  go_wp2_with fail
  refine (HPA.out w4 HB4.out).mono ?_
  rintro e w5 ⟨D, d, D', d', rfl, hz, b5⟩
  have HB5 := Lib.hid (HB4.out.trans (b5.mono HB4.out.size))
  have HBo5 := Lib.hid ((HBo4.out.below b5 HBo4.out.lt).alloc (.cells #[.int .i64 k, .int .i64 n, .string s, .slice D ns.length d, .slice D' ts.length d'] 25))
  have HBp5 : Hid (Blk (w5.alloc (.cells #[.int .i64 k, .int .i64 n, .string s, .slice D ns.length d, .slice D' ts.length d'] 25)) w5.heap.size 25 #[.int .i64 k, .int .i64 n, .string s, .slice D ns.length d, .slice D' ts.length d']) := Lib.hid (Blk.new _ _ _)
  have HZ := Lib.hid (hz.alloc (Nat.le_refl _) (.cells #[.int .i64 k, .int .i64 n, .string s, .slice D ns.length d, .slice D' ts.length d'] 25))
  have HB6 := Lib.hid (HB5.out.alloc HB5.out.size (.cells #[.int .i64 k, .int .i64 n, .string s, .slice D ns.length d, .slice D' ts.length d'] 25))
  clear b5 hz
  obtain ⟨x0, x1, x2, x3, x4⟩ := box_cells HBo5.out
  obtain ⟨y0, y1, y2, y3, y4⟩ := box_cells HBp5.out
  go_wp2_with fail
  have hsz : w5.heap.size ≤ (w5.alloc (.cells #[.int .i64 k, .int .i64 n, .string s, .slice D ns.length d, .slice D' ts.length d'] 25)).heap.size := by rw [World.size_alloc]; exact Nat.le_succ _
  refine (HRS.out _ _ w5.heap.size ((HX.out.below HB6.out).more HB5.out.size) HZ.out hsz).mono ?_
  rintro e w7 ⟨rfl, b7⟩
  have HB7 := Lib.hid (HB6.out.trans (b7.mono HB6.out.size))
  clear b7 hsz
  go_wp2
  go_ret
  exact ⟨rfl, HB7.out⟩

/-! ### THE ROW's STEP -/
theorem own : ownKnob Tryz.prog.godebug = none := by kernel_rfl
theorem laidOut : laidOutB Tryz.prog = true := by kernel_rfl

set_option maxRecDepth 100000 in
theorem contract (H : Type) (enc : TypeId × Value → H) (W : World) (base : Nat) (args : Array Value) (ds gs : List (DataW H)) (before : List MemPlace)
    (hval0 : ∀ (j : Nat) t v, Tryz.f5.params[j]? = some t → args[j]? = some v → Value.okWide Tryz.prog W .any base t v)
    (hW : DataW.Whole enc Tryz.prog Tryz.f5.params.toList Rows.cellThereSpec.vars false W args.toList ds gs before)
    (hsz : (DataW.weightsEach Tryz.prog (Tryz.f5.params.toList ++ (OpenSpec.ofChange Rows.cellThereSpec).bare.plain.varTypes Tryz.prog) (ds ++ gs)).all (· ≤ reachBytes) = true) (hL : laidMetH Tryz.prog Rows.cellThereRow.laid W) (hSh : W.ShapedOpen Tryz.prog) :
    Calls Tryz.prog 5 args W fun e W' => ∃ v, e = .returned v ∧ Rows.cellThereSpec.post enc Tryz.prog Tryz.f5 false true false false W args v W' := by
  have hval : ∀ (j : Nat) t v, Tryz.f5.params[j]? = some t → args[j]? = some v → Value.okWide Tryz.prog W .any base t v := hval0
  have hW' := hW
  obtain ⟨p, q, hA0, hV, rfl, hfz, hnd⟩ := hW
  have hA : DataW.TrodAll enc Tryz.prog W 0 (fun _ => true) true Tryz.f5.params.toList args.toList ds p := hA0
  rw [Tryz.params5] at hA hval
  obtain ⟨v0, vs0, d0, ds0, p0, q0, hargs, rfl, rfl, h0, r0⟩ := trodAll_cons hA
  obtain ⟨rfl, rfl, rfl⟩ := trodAll_nil r0
  obtain rfl : args = #[v0] := by cases args; simp_all
  obtain ⟨rfl, rfl⟩ := trodVars_none hV
  have k0 := h0
  have lt0 : ∀ x ∈ p0, x.block < W.heap.size := by obtain ⟨m, hm⟩ := k0; exact DataW.trod_lt m _ _ _ hm
  have w0 := reach_at hsz (j := 0) rfl rfl
  clear hA0 hval0 hsz
  obtain ⟨val0, A0, c0, B0, d0, rfl, hx0⟩ := open_value (hval 0 _ v0 rfl rfl) w0 h0 lt0
  refine (walk W (cew_of hL hSh) hx0).mono fun e W' ⟨he, bel⟩ => ?_
  subst he
  exact ⟨_, rfl, _, _, _, [], _, [], hW', trodAll_mk1 (shut_bool Tryz.underlying4 _), (trodAll_cons_mk (Below.trod laidOut (by kernel_rfl) (of_decide_eq_true (by kernel_rfl)) k0 bel lt0) trodAll_mk0), rfl, bel.frame _, fun h => by cases h⟩

theorem laid_met (os : Os) : laidMet Tryz.prog Rows.cellThereRow.laid ((laidWorld os).forCall (fun _ _ => 0) ⟨#[], #[.agg #[.int .i64 0, .int .i64 0, .string ⟨#[]⟩, .slice none 0 0, .slice none 0 0]], []⟩).memory :=
  laid_met0 os
theorem reads (os : Os) {H : Type} (enc : TypeId × Value → H) : ∃ places, DataW.whole enc Tryz.prog ((laidWorld os).forCall (fun _ _ => 0) ⟨#[], #[.agg #[.int .i64 0, .int .i64 0, .string ⟨#[]⟩, .slice none 0 0, .slice none 0 0]], []⟩).memory Tryz.f5.params.toList Rows.cellThereSpec.vars false (#[.agg #[.int .i64 0, .int .i64 0, .string ⟨#[]⟩, .slice none 0 0, .slice none 0 0]] : Array Value).toList 8 = some ([.agg [.lit (.int .i64 0), .lit (.int .i64 0), .lit (.string []), .nil, .nil]], [], places) :=
  ⟨[], by kernel_rfl⟩

set_option maxRecDepth 100000 in
theorem lifted (os : Os) (started : os.Started) (H : Type) (enc : TypeId × Value → H) (F : Stop.Interp) :
    ReturnsInHanded {} Tryz.checked os 5 .any ((OpenSpec.ofChange Rows.cellThereSpec).preRow enc Tryz.prog Tryz.f5 Rows.cellThereRow.domain false Rows.cellThereRow.laid) (((OpenSpec.ofChange Rows.cellThereSpec).at F).post enc Tryz.prog Tryz.f5 false true false false) := by
  obtain ⟨places, hx⟩ := reads os enc
  refine returnsInHanded_of_row (C := Tryz.checked) (s := (OpenSpec.ofChange Rows.cellThereSpec)) own started (by kernel_rfl) Tryz.func5
    (witness_row_at (enc := enc) (C := Tryz.checked) false (laidWorld os) #[.agg #[.int .i64 0, .int .i64 0, .string ⟨#[]⟩, .slice none 0 0, .slice none 0 0]] rfl (by kernel_rfl) (by kernel_rfl) (by kernel_rfl)
      (OpenSpec.preRow_of_cond 8 hx (by kernel_rfl) (fun k hk => by cases hk) (by kernel_rfl) (laid_met os))) ?_
  intro W base args ds gs before hval hW _ hcond hsz hL hSh _
  exact contract H enc W base args ds gs before hval hW hsz hL hSh

theorem said : Rows.CellThereSaid :=
  OpenClaim.holds_of_cond 5 Tryz.f5 rfl rfl rfl rfl rfl rfl rfl ⟨rfl, rfl, rfl, rfl, rfl⟩ rfl rfl rfl rfl rfl (by kernel_rfl) Tryz.func5 (by kernel_rfl)
    (of_decide_eq_true (by kernel_rfl)) (by unfold Func.isWrapper; rw [if_neg (of_decide_eq_false (by kernel_rfl))]; exact ⟨rfl, rfl⟩)
    (fun os started H enc _ F => by rw [OpenClaim.pre_eq_preRow]; exact lifted os started H enc F)

theorem noStandIn : ∀ t ∈ ([25] : List TypeId), Tryz.prog.wantsStandIn t = false := by
  intro t ht
  simp only [List.mem_cons, List.not_mem_nil, or_false] at ht
  rcases ht with rfl
  · exact (show Tryz.prog.wantsStandIn 25 = false by kernel_rfl)
theorem plain (f : FuncId) (fn : Func) (hf : Tryz.pinned.checked.prog.funcNamed "satchel/satchellaw22.CellThere" = some f) (hfn : Tryz.pinned.checked.prog.funcs[f]? = some fn) :
    true = Tryz.pinned.checked.prog.looks [] ∧ ∀ (j : Nat) t, fn.params[j]? = some t → Tryz.pinned.checked.prog.wantsStandIn t = false := by
  obtain rfl : f = 5 := Option.some.inj ((show Tryz.prog.funcNamed "satchel/satchellaw22.CellThere" = some 5 by kernel_rfl).symm.trans hf) |>.symm
  obtain rfl : fn = Tryz.f5 := (Option.some.inj (Tryz.func5.symm.trans hfn)).symm
  refine ⟨by kernel_rfl, fun j t ht => ?_⟩
  rw [Tryz.params5] at ht
  exact noStandIn t (by simpa using Array.mem_of_getElem? ht)

/-- THE CARD -/
theorem proved : Rows.CellThereCardSaid :=
  Claim7.holds_tied_plain_at .later [] _ _ _ _ said (fun _ h => by cases h) (by kernel_rfl) (fun _ h => by cases h) cellThere_row_tie rfl ⟨rfl, rfl⟩ (by kernel_rfl) rfl plain (by kernel_rfl)
end Go.Proofs.YthfoffcfbfmajaaGreatDoor.cellThere
