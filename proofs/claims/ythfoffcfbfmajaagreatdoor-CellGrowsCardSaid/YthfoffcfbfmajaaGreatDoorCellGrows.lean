/- A list's form with one element's form and a semicolon behind it is the form of the list with that element more, for every value and element. The library's tables and errors, and the program's own table of the forms' beginnings, stand as the program's text lays them (the card ties them). -/
import Derived.Test.YthfoffcfbfmajaaGreatDoorOpen
import Derived.Test.YthfoffcfbfmajaaGreatDoorCards
import Derived.Test.YthfoffcfbfmajaaGreatDoorTie
import Derived.Deep.DeepHandedRow
import Derived.Lib.LaidTab
import Derived.Test.YthfoffcfbfmajaaGreatDoorCeGrowN
import Derived.Test.YthfoffcfbfmajaaGreatDoorCeGrowT
import Derived.Test.YthfoffcfbfmajaaGreatDoorCeGrowO
import Derived.Test.YthfoffcfbfmajaaGreatDoorCeLaid
import Derived.Test.YthfoffcfbfmajaaGreatDoorValRefA
namespace Go.Proofs.YthfoffcfbfmajaaGreatDoor.cellGrows
open Go.ChangeShapes Go.WideShapes Go.ChangeAt Go.RowKit
open Go.ChangeMaps (open_string shut_string)
set_option linter.unusedVariables false
set_option linter.unusedSimpArgs false

set_option maxRecDepth 100000 in
set_option maxHeartbeats 4000000 in
theorem walk (w : World) (hW : CeW w) {v : Vv} {A : Option Addr} {c : Nat} {A' : Option Addr} {c' : Nat} (hx : VR w w.heap.size v (vagg v A c A' c')) {x : Int} (hx1 : -9223372036854775808 ≤ x ∧ x ≤ 9223372036854775807) {t : ByteArray} (ht : t.size ≤ 140737488351232) :
    Calls Tryz.prog 7 #[vagg v A c A' c', .int .i64 x, .string t] w fun e w' => e = .returned (.bool true) ∧ Below w.heap.size w w' := by
  by_cases hgo : (4 < v.k ∧ v.k ≤ 8) ∧ chk v = 0 ∧ v.ns.length + v.ts.length < 40
  · obtain ⟨⟨hk1, hk2⟩, hc, hl⟩ := hgo
    have hok := hx.ok
    obtain ⟨A0, c0, A0', c0', e, r1, r2, -⟩ := hx
    obtain ⟨k, n, s, ns, ts⟩ := v
    unfold vagg at e ⊢
    simp only [Value.agg.injEq, Array.mk.injEq, List.cons.injEq, Value.slice.injEq, true_and, and_true] at e
    obtain ⟨⟨rfl, rfl⟩, rfl, rfl⟩ := e
    obtain ⟨-, ho, -, -⟩ := el_of hc
    obtain ⟨o1, o2, o3, o4⟩ := own_true ho
    simp only at hk1 hk2 hl r1 r2 o1 o2 o3 o4
    obtain rfl := o1 (by omega)
    obtain rfl := empty_of (o2 (by omega))
    by_cases h8 : k = 8
    · subst h8
      obtain rfl := o3 (.inr rfl)
      exact walk_texts w hW r2 r1 hok hc (by simpa using hl) t ht x
    · obtain rfl := o4 h8
      exact walk_nums w hW hk1 (by omega) r1 r2 hok hc (by simpa using hl) x hx1.1 hx1.2 t
  have HSP : Hid (∀ w', Below w.heap.size w w' → Calls Tryz.prog 9 #[] w' fun e w2 => e = .returned (.bool true) ∧ Below w'.heap.size w' w2) := Lib.hid fun w' hb => speaks22_any w' (hW.below hb (Nat.le_refl _))
  have HC0 := Lib.hid fun w' h1 h2 => refCheck_any v (vagg v A c A' c') w.heap.size w' h1 h2
  have HX := Lib.hid hx
  have HK1 := Lib.hid hx.ok.k1
  have HK2 := Lib.hid hx.ok.k2
  have HL1 := Lib.hid hx.ok.ns2
  have HL2 := Lib.hid hx.ok.ts2
  unfold Told at HC0
  obtain ⟨E, hE⟩ : ∃ E, E = chk v := ⟨_, rfl⟩
  rw [← hE] at HC0 hgo
  obtain ⟨k, n, s, ns, ts⟩ := v
  unfold vagg at HC0 HX ⊢
  simp only at HC0 HX hgo HK1 HK2 HL1 HL2 ⊢
  clear hx hW hE
  go_enter Tryz.func7, Tryz.ntmps7
  go_wp2_with fail
  obtain ⟨wo, hwo⟩ : ∃ x, x = w.alloc (.cells #[.int .i64 k, .int .i64 n, .string s, .slice A ns.length c, .slice A' ts.length c'] 25) := ⟨_, rfl⟩
  rw [← hwo]
  have HBo : Hid (Blk wo w.heap.size 25 #[.int .i64 k, .int .i64 n, .string s, .slice A ns.length c, .slice A' ts.length c']) := Lib.hid (by rw [hwo]; exact Blk.new _ _ _)
  have HB0 : Hid (Below w.heap.size w wo) := Lib.hid (by rw [hwo]; exact (Below.refl w.heap.size w).alloc (Nat.le_refl _) _)
  clear hwo
  refine (HSP.out wo HB0.out).mono ?_
  rintro e w1 ⟨rfl, b1⟩
  have HB1 := Lib.hid (HB0.out.trans (b1.mono HB0.out.size))
  have HBo1 := Lib.hid (HBo.out.below b1 HBo.out.lt)
  obtain ⟨x0, x1, x2, x3, x4⟩ := box_cells HBo1.out
  clear b1 HSP
  by_cases h1 : k < 5
  · have h1' : decide (k < 5) = true := decide_eq_true h1
    go_wp2
    go_ret
    exact ⟨rfl, HB1.out⟩
  have h1' : decide (k < 5) = false := decide_eq_false h1
  by_cases h2 : 8 < k
  · have h2' : decide (8 < k) = true := decide_eq_true h2
    go_wp2
    go_ret
    exact ⟨rfl, HB1.out⟩
  have h2' : decide (8 < k) = false := decide_eq_false h2
  go_wp2_with fail
  refine (HC0.out w1 (HX.out.below HB1.out) HB1.out.size).mono ?_
  rintro e w2 ⟨rfl, b2⟩
  have HB2 := Lib.hid (HB1.out.trans (b2.mono HB1.out.size))
  have HBo2 := Lib.hid (HBo1.out.below b2 HBo1.out.lt)
  clear x0 x1 x2 x3 x4 b2 HC0 HX
  obtain ⟨x0, x1, x2, x3, x4⟩ := box_cells HBo2.out
  by_cases hE : E = 0
  · subst hE
    have h3 : 40 ≤ (ns.length : Int) + (ts.length : Int) := by
      have : ¬ (ns.length + ts.length < 40) := fun h => hgo ⟨⟨by omega, by omega⟩, rfl, h⟩
      omega
    have h3' : decide (40 ≤ (ns.length : Int) + (ts.length : Int)) = true := decide_eq_true h3
    have hw : IntKind.i64.wrap ((ns.length : Int) + (ts.length : Int)) = (ns.length : Int) + (ts.length : Int) := by
      have := HL1.out
      have := HL2.out
      rw [IntKind.wrap_i64]
      omega
    clear hgo
    go_wp2
    go_ret
    exact ⟨rfl, HB2.out⟩
  · have hne : (E != 0) = true := by simpa using hE
    have hne2 : (E == 0) = false := by simpa using hE
    clear hgo
    go_wp2
    go_ret
    exact ⟨rfl, HB2.out⟩

/-! ### THE ROW's STEP -/
theorem own : ownKnob Tryz.prog.godebug = none := by kernel_rfl
theorem laidOut : laidOutB Tryz.prog = true := by kernel_rfl

set_option maxRecDepth 100000 in
theorem contract (H : Type) (enc : TypeId × Value → H) (W : World) (base : Nat) (args : Array Value) (ds gs : List (DataW H)) (before : List MemPlace)
    (hval0 : ∀ (j : Nat) t v, Tryz.f7.params[j]? = some t → args[j]? = some v → Value.okWide Tryz.prog W .any base t v)
    (hW : DataW.Whole enc Tryz.prog Tryz.f7.params.toList Rows.cellGrowsSpec.vars false W args.toList ds gs before)
    (hsz : (DataW.weightsEach Tryz.prog (Tryz.f7.params.toList ++ (OpenSpec.ofChange Rows.cellGrowsSpec).bare.plain.varTypes Tryz.prog) (ds ++ gs)).all (· ≤ reachBytes) = true) (hL : laidMetH Tryz.prog Rows.cellGrowsRow.laid W) (hSh : W.ShapedOpen Tryz.prog) :
    Calls Tryz.prog 7 args W fun e W' => ∃ v, e = .returned v ∧ Rows.cellGrowsSpec.post enc Tryz.prog Tryz.f7 false true false false W args v W' := by
  have hval : ∀ (j : Nat) t v, Tryz.f7.params[j]? = some t → args[j]? = some v → Value.okWide Tryz.prog W .any base t v := hval0
  have hW' := hW
  obtain ⟨p, q, hA0, hV, rfl, hfz, hnd⟩ := hW
  have hA : DataW.TrodAll enc Tryz.prog W 0 (fun _ => true) true Tryz.f7.params.toList args.toList ds p := hA0
  rw [Tryz.params7] at hA hval
  obtain ⟨v0, vs0, d0, ds0, p0, q0, hargs, rfl, rfl, h0, r0⟩ := trodAll_cons hA
  obtain ⟨v1, vs1, d1, ds1, p1, q1, rfl, rfl, rfl, h1, r1⟩ := trodAll_cons r0
  obtain ⟨v2, vs2, d2, ds2, p2, q2, rfl, rfl, rfl, h2, r2⟩ := trodAll_cons r1
  obtain ⟨rfl, rfl, rfl⟩ := trodAll_nil r2
  obtain rfl : args = #[v0, v1, v2] := by cases args; simp_all
  obtain ⟨rfl, rfl⟩ := trodVars_none hV
  have k0 := h0
  have lt0 : ∀ x ∈ p0, x.block < W.heap.size := by obtain ⟨m, hm⟩ := k0; exact DataW.trod_lt m _ _ _ hm
  have w0 := reach_at hsz (j := 0) rfl rfl
  have k1 := h1
  have lt1 : ∀ x ∈ p1, x.block < W.heap.size := by obtain ⟨m, hm⟩ := k1; exact DataW.trod_lt m _ _ _ hm
  have w1 := reach_at hsz (j := 1) rfl rfl
  have k2 := h2
  have lt2 : ∀ x ∈ p2, x.block < W.heap.size := by obtain ⟨m, hm⟩ := k2; exact DataW.trod_lt m _ _ _ hm
  have w2 := reach_at hsz (j := 2) rfl rfl
  clear hA0 hval0 hsz
  obtain ⟨val0, A0, c0, B0, d0, rfl, hx0⟩ := open_value (hval 0 _ v0 rfl rfl) w0 h0 lt0
  obtain ⟨a1, rfl, rfl, rfl, wf1⟩ := open_int Tryz.underlying2 (hval 1 2 v1 rfl rfl) h1
  obtain ⟨s2, rfl, hx2⟩ := open_growtext (hval 2 _ v2 rfl rfl) w2 h2 lt2
  refine (walk W (cew_of hL hSh) hx0 (bounds_i64 wf1) hx2).mono fun e W' ⟨he, bel⟩ => ?_
  subst he
  exact ⟨_, rfl, _, _, _, [], _, [], hW', trodAll_mk1 (shut_bool Tryz.underlying4 _), (trodAll_cons_mk (Below.trod laidOut (by kernel_rfl) (of_decide_eq_true (by kernel_rfl)) k0 bel lt0) (trodAll_cons_mk (Below.trod laidOut (by kernel_rfl) (of_decide_eq_true (by kernel_rfl)) k1 bel lt1) (trodAll_cons_mk (Below.trod laidOut (by kernel_rfl) (of_decide_eq_true (by kernel_rfl)) k2 bel lt2) trodAll_mk0))), rfl, bel.frame _, fun h => by cases h⟩

theorem laid_met (os : Os) : laidMet Tryz.prog Rows.cellGrowsRow.laid ((laidWorld os).forCall (fun _ _ => 0) ⟨#[], #[.agg #[.int .i64 0, .int .i64 0, .string ⟨#[]⟩, .slice none 0 0, .slice none 0 0], .int .i64 0, .string ByteArray.empty], []⟩).memory :=
  laid_met0 os
theorem reads (os : Os) {H : Type} (enc : TypeId × Value → H) : ∃ places, DataW.whole enc Tryz.prog ((laidWorld os).forCall (fun _ _ => 0) ⟨#[], #[.agg #[.int .i64 0, .int .i64 0, .string ⟨#[]⟩, .slice none 0 0, .slice none 0 0], .int .i64 0, .string ByteArray.empty], []⟩).memory Tryz.f7.params.toList Rows.cellGrowsSpec.vars false (#[.agg #[.int .i64 0, .int .i64 0, .string ⟨#[]⟩, .slice none 0 0, .slice none 0 0], .int .i64 0, .string ByteArray.empty] : Array Value).toList 8 = some ([.agg [.lit (.int .i64 0), .lit (.int .i64 0), .lit (.string []), .nil, .nil], .lit (.int .i64 0), .lit (.string [])], [], places) :=
  ⟨[], by kernel_rfl⟩

set_option maxRecDepth 100000 in
theorem lifted (os : Os) (started : os.Started) (H : Type) (enc : TypeId × Value → H) (F : Stop.Interp) :
    ReturnsInHanded {} Tryz.checked os 7 .any ((OpenSpec.ofChange Rows.cellGrowsSpec).preRow enc Tryz.prog Tryz.f7 Rows.cellGrowsRow.domain false Rows.cellGrowsRow.laid) (((OpenSpec.ofChange Rows.cellGrowsSpec).at F).post enc Tryz.prog Tryz.f7 false true false false) := by
  obtain ⟨places, hx⟩ := reads os enc
  refine returnsInHanded_of_row (C := Tryz.checked) (s := (OpenSpec.ofChange Rows.cellGrowsSpec)) own started (by kernel_rfl) Tryz.func7
    (witness_row_at (enc := enc) (C := Tryz.checked) false (laidWorld os) #[.agg #[.int .i64 0, .int .i64 0, .string ⟨#[]⟩, .slice none 0 0, .slice none 0 0], .int .i64 0, .string ByteArray.empty] rfl (by kernel_rfl) (by kernel_rfl) (by kernel_rfl)
      (OpenSpec.preRow_of_cond 8 hx (by kernel_rfl) (fun k hk => by cases hk) (by kernel_rfl) (laid_met os))) ?_
  intro W base args ds gs before hval hW _ hcond hsz hL hSh _
  exact contract H enc W base args ds gs before hval hW hsz hL hSh

theorem said : Rows.CellGrowsSaid :=
  OpenClaim.holds_of_cond 7 Tryz.f7 rfl rfl rfl rfl rfl rfl rfl ⟨rfl, rfl, rfl, rfl, rfl⟩ rfl rfl rfl rfl rfl (by kernel_rfl) Tryz.func7 (by kernel_rfl)
    (of_decide_eq_true (by kernel_rfl)) (by unfold Func.isWrapper; rw [if_neg (of_decide_eq_false (by kernel_rfl))]; exact ⟨rfl, rfl⟩)
    (fun os started H enc _ F => by rw [OpenClaim.pre_eq_preRow]; exact lifted os started H enc F)

theorem noStandIn : ∀ t ∈ ([25, 2, 9] : List TypeId), Tryz.prog.wantsStandIn t = false := by
  intro t ht
  simp only [List.mem_cons, List.not_mem_nil, or_false] at ht
  rcases ht with rfl | rfl | rfl
  · exact (show Tryz.prog.wantsStandIn 25 = false by kernel_rfl)
  · exact (show Tryz.prog.wantsStandIn 2 = false by kernel_rfl)
  · exact (show Tryz.prog.wantsStandIn 9 = false by kernel_rfl)
theorem plain (f : FuncId) (fn : Func) (hf : Tryz.pinned.checked.prog.funcNamed "satchel/satchellaw22.CellGrows" = some f) (hfn : Tryz.pinned.checked.prog.funcs[f]? = some fn) :
    true = Tryz.pinned.checked.prog.looks [] ∧ ∀ (j : Nat) t, fn.params[j]? = some t → Tryz.pinned.checked.prog.wantsStandIn t = false := by
  obtain rfl : f = 7 := Option.some.inj ((show Tryz.prog.funcNamed "satchel/satchellaw22.CellGrows" = some 7 by kernel_rfl).symm.trans hf) |>.symm
  obtain rfl : fn = Tryz.f7 := (Option.some.inj (Tryz.func7.symm.trans hfn)).symm
  refine ⟨by kernel_rfl, fun j t ht => ?_⟩
  rw [Tryz.params7] at ht
  exact noStandIn t (by simpa using Array.mem_of_getElem? ht)

/-- THE CARD -/
theorem proved : Rows.CellGrowsCardSaid :=
  Claim7.holds_tied_plain_at .later [] _ _ _ _ said (fun _ h => by cases h) (by kernel_rfl) (fun _ h => by cases h) cellGrows_row_tie rfl ⟨rfl, rfl⟩ (by kernel_rfl) rfl plain (by kernel_rfl)
end Go.Proofs.YthfoffcfbfmajaaGreatDoor.cellGrows
