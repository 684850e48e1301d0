/- For any two values, right or not, Same tells exactly whether they are one, field by field. -/
import Derived.Test.YtcopofdoelcgcaaOpen
import Derived.Test.YtcopofdoelcgcaaRows
import Derived.Test.YtcopofdoelcgcaaValSpeak
import Derived.Test.YtcopofdoelcgcaaValEnc4
import Derived.Test.YtcopofdoelcgcaaValSame3
import Derived.Deep.RegionHeld3
import Derived.Deep.Cut
namespace Go.Proofs.Ytcopofdoelcgcaa.valueSames
open Go.ChangeShapes Go.WideShapes Go.ChangeAt Go.RowKit
open Go.ChangeMaps (open_string shut_string)
set_option linter.unusedVariables false

set_option maxRecDepth 100000 in
set_option maxHeartbeats 2000000 in
theorem walk (w : World) {v : Vv} {A : Option Addr} {c : Nat} {A' : Option Addr} {c' : Nat} (hx : VR w w.heap.size v (vagg v A c A' c')) {u : Vv} {D : Option Addr} {d : Nat} {D' : Option Addr} {d' : Nat} (hy : VR w w.heap.size u (vagg u D d D' d')) :
    Calls Try.prog 5 #[vagg v A c A' c', vagg u D d D' d'] w fun e w' => e = .returned (.bool true) ∧ Below w.heap.size w w' := by
  obtain ⟨k, n, s, ns, ts⟩ := v
  obtain ⟨k', n', s', ns', ts'⟩ := u
  unfold vagg at hx hy ⊢
  simp only at hx hy ⊢
  go_enter Try.func5, Try.ntmps5
  go_wp2_with fail
  obtain ⟨wo, hwo⟩ : ∃ x, x = (w.alloc (.cells #[.int .i64 k, .int .i64 n, .string s, .slice A ns.length c, .slice A' ts.length c'] 26)).alloc (.cells #[.int .i64 k', .int .i64 n', .string s', .slice D ns'.length d, .slice D' ts'.length d'] 26) := ⟨_, rfl⟩
  rw [← hwo]
  have Bo : Blk wo w.heap.size 26 #[.int .i64 k, .int .i64 n, .string s, .slice A ns.length c, .slice A' ts.length c'] := by subst hwo; exact (Blk.new _ _ _).alloc _
  have Co : Blk wo (w.heap.size + 1) 26 #[.int .i64 k', .int .i64 n', .string s', .slice D ns'.length d, .slice D' ts'.length d'] := by
    subst hwo
    have := Blk.new (w.alloc (.cells #[.int .i64 k, .int .i64 n, .string s, .slice A ns.length c, .slice A' ts.length c'] 26)) 26 #[.int .i64 k', .int .i64 n', .string s', .slice D ns'.length d, .slice D' ts'.length d']
    simpa using this
  have hb0 : Below w.heap.size w wo := by subst hwo; exact ((Below.refl _ _).alloc (Nat.le_refl _) _).alloc (by simp) _
  clear hwo
  refine (vspeaks_any wo).mono ?_
  rintro e w1 ⟨rfl, b1⟩
  have B1 := Bo.below b1 Bo.lt
  have C1 := Co.below b1 Co.lt
  have hb1 := hb0.trans (b1.mono hb0.size)
  clear Bo Co hb0 b1
  obtain ⟨x0, x1, x2, x3, x4⟩ := box_cells B1
  obtain ⟨y0, y1, y2, y3, y4⟩ := box_cells C1
  have HB1 := Lib.hid B1
  have HC1 := Lib.hid C1
  have HBl := B1.lt
  have HCl := C1.lt
  have Hb1 := Lib.hid hb1
  have hs1 := hb1.size
  obtain ⟨E, hE⟩ : ∃ E, E = sameV ⟨k, n, s, ns, ts⟩ ⟨k', n', s', ns', ts'⟩ := ⟨_, rfl⟩
  have HS := Lib.hid fun w' x' y' B' h1 h2 h3 => Same_any ⟨k, n, s, ns, ts⟩ ⟨k', n', s', ns', ts'⟩ x' y' B' w' h1 h2 h3
  have HRS := Lib.hid fun w' h1 h2 h3 => refSame_any ⟨k, n, s, ns, ts⟩ ⟨k', n', s', ns', ts'⟩ (.agg #[.int .i64 k, .int .i64 n, .string s, .slice A ns.length c, .slice A' ts.length c']) (.agg #[.int .i64 k', .int .i64 n', .string s', .slice D ns'.length d, .slice D' ts'.length d']) w.heap.size w' h1 h2 h3
  have HT := Lib.hid fun w' x' y' B' h1 h2 h3 => Same_any ⟨k, n, s, ns, ts⟩ ⟨k, n, s, ns, ts⟩ x' y' B' w' h1 h2 h3
  rw [← hE] at HS HRS
  rw [sameV_self] at HT
  have H1 := Lib.hid fun w' h1 h2 => refCopy_any ⟨k, n, s, ns, ts⟩ (.agg #[.int .i64 k, .int .i64 n, .string s, .slice A ns.length c, .slice A' ts.length c']) w.heap.size w' h1 h2
  have H2 := Lib.hid fun w' h1 h2 => refCopy_any ⟨k', n', s', ns', ts'⟩ (.agg #[.int .i64 k', .int .i64 n', .string s', .slice D ns'.length d, .slice D' ts'.length d']) w.heap.size w' h1 h2
  have heq : (E == E) = true := by simp
  have HP0 := H1.out (w1.drewN 1) (hx.below (below_drewN hb1 1)) hs1
  have e1 : w1.drewN 1 = w1.drew := rfl
  rw [e1] at HP0
  have HP1 := Lib.hid HP0
  clear hE B1 C1 hb1 HP0 e1
  go_wp2_with fail
  go_region_held3 (fun w' => w'.cell? ⟨w.heap.size, 0, none⟩ = some (.int .i64 k) ∧ w'.cell? ⟨w.heap.size, 1, none⟩ = some (.int .i64 n) ∧ w'.cell? ⟨w.heap.size, 2, none⟩ = some (.string s) ∧ w'.cell? ⟨w.heap.size, 3, none⟩ = some (.slice A ns.length c) ∧ w'.cell? ⟨w.heap.size, 4, none⟩ = some (.slice A' ts.length c') ∧ w'.cell? ⟨w.heap.size + 1, 0, none⟩ = some (.int .i64 k') ∧ w'.cell? ⟨w.heap.size + 1, 1, none⟩ = some (.int .i64 n') ∧ w'.cell? ⟨w.heap.size + 1, 2, none⟩ = some (.string s') ∧ w'.cell? ⟨w.heap.size + 1, 3, none⟩ = some (.slice D ns'.length d) ∧ w'.cell? ⟨w.heap.size + 1, 4, none⟩ = some (.slice D' ts'.length d')) (go_keep)
    (first
      | (go_at_call 14; ((with_reducible refine (HP1.out).mono ?_)); rintro e w2 ⟨z, rfl, ⟨A2, c2, A3, c3, rfl, r2, r3, ok2⟩, b2⟩; unfold vagg; have hb2 : Below w.heap.size w w2 := Below.trans (below_drewN Hb1.out 1) (b2.mono hs1); have v2 : VR w2 w2.heap.size ⟨k, n, s, ns, ts⟩ (.agg #[.int .i64 k, .int .i64 n, .string s, .slice A2 ns.length c2, .slice A3 ts.length c3]) := ⟨A2, c2, A3, c3, rfl, r2, r3, ok2⟩; have HB2 := Lib.hid (Blk.below (Blk.drewN HB1.out 1) b2 HBl); have HC2 := Lib.hid (Blk.below (Blk.drewN HC1.out 1) b2 HCl); obtain ⟨x0, x1, x2, x3, x4⟩ := box_cells HB2.out; obtain ⟨y0, y1, y2, y3, y4⟩ := box_cells HC2.out; have HP2 := Lib.hid (H2.out w2 (hy.below hb2) hb2.size))
      | (go_at_call 14; ((with_reducible refine (HP2.out).mono ?_)); rintro e w3 ⟨z, rfl, ⟨D2, d2, D3, d3, rfl, r2, r3, ok2⟩, b3⟩; unfold vagg; have hb3 := hb2.trans (b3.mono hb2.size); have v3 := (v2.below b3).more b3.size; have u3 : VR w3 w3.heap.size ⟨k', n', s', ns', ts'⟩ (.agg #[.int .i64 k', .int .i64 n', .string s', .slice D2 ns'.length d2, .slice D3 ts'.length d3]) := ⟨D2, d2, D3, d3, rfl, r2, r3, ok2⟩; have HB3 := Lib.hid (Blk.below HB2.out b3 HB2.out.lt); have HC3 := Lib.hid (Blk.below HC2.out b3 HC2.out.lt); obtain ⟨x0, x1, x2, x3, x4⟩ := box_cells HB3.out; obtain ⟨y0, y1, y2, y3, y4⟩ := box_cells HC3.out; have HP3 := Lib.hid (HS.out w3 _ _ w3.heap.size v3 u3 (Nat.le_refl _)))
      | (go_at_call 18; ((with_reducible refine (HP3.out).mono ?_)); rintro e w4 ⟨rfl, b4⟩; have hb4 := hb3.trans (b4.mono hb3.size); have HB4 := Lib.hid (Blk.below HB3.out b4 HB3.out.lt); have HC4 := Lib.hid (Blk.below HC3.out b4 HC3.out.lt); obtain ⟨x0, x1, x2, x3, x4⟩ := box_cells HB4.out; obtain ⟨y0, y1, y2, y3, y4⟩ := box_cells HC4.out; have HP4 := Lib.hid (HRS.out w4 (hx.below hb4) (hy.below hb4) hb4.size))
      | (go_at_call 17; ((with_reducible refine (HP4.out).mono ?_)); rintro e w5 ⟨rfl, b5⟩; have hb5 := hb4.trans (b5.mono hb4.size); have HB5 := Lib.hid (Blk.below HB4.out b5 HB4.out.lt); have HC5 := Lib.hid (Blk.below HC4.out b5 HC4.out.lt); obtain ⟨x0, x1, x2, x3, x4⟩ := box_cells HB5.out; obtain ⟨y0, y1, y2, y3, y4⟩ := box_cells HC5.out; have HP5 := Lib.hid (H1.out w5 (hx.below hb5) hb5.size))
      | (go_at_call 14; ((with_reducible refine (HP5.out).mono ?_)); rintro e w6 ⟨z, rfl, ⟨A6, c6, A7, c7, rfl, r2, r3, ok2⟩, b6⟩; unfold vagg; have hb6 := hb5.trans (b6.mono hb5.size); have v6 : VR w6 w6.heap.size ⟨k, n, s, ns, ts⟩ (.agg #[.int .i64 k, .int .i64 n, .string s, .slice A6 ns.length c6, .slice A7 ts.length c7]) := ⟨A6, c6, A7, c7, rfl, r2, r3, ok2⟩; have HB6 := Lib.hid (Blk.below HB5.out b6 HB5.out.lt); have HC6 := Lib.hid (Blk.below HC5.out b6 HC5.out.lt); obtain ⟨x0, x1, x2, x3, x4⟩ := box_cells HB6.out; obtain ⟨y0, y1, y2, y3, y4⟩ := box_cells HC6.out; have HP6 := Lib.hid (H1.out w6 (hx.below hb6) hb6.size))
      | (go_at_call 14; ((with_reducible refine (HP6.out).mono ?_)); rintro e w7 ⟨z, rfl, ⟨A8, c8, A9, c9, rfl, r2, r3, ok2⟩, b7⟩; unfold vagg; have hb7 := hb6.trans (b7.mono hb6.size); have v7 := (v6.below b7).more b7.size; have u7 : VR w7 w7.heap.size ⟨k, n, s, ns, ts⟩ (.agg #[.int .i64 k, .int .i64 n, .string s, .slice A8 ns.length c8, .slice A9 ts.length c9]) := ⟨A8, c8, A9, c9, rfl, r2, r3, ok2⟩; have HB7 := Lib.hid (Blk.below HB6.out b7 HB6.out.lt); have HC7 := Lib.hid (Blk.below HC6.out b7 HC6.out.lt); obtain ⟨x0, x1, x2, x3, x4⟩ := box_cells HB7.out; obtain ⟨y0, y1, y2, y3, y4⟩ := box_cells HC7.out; have HP7 := Lib.hid (HT.out w7 _ _ w7.heap.size v7 u7 (Nat.le_refl _)))
      | (go_at_call 18; ((with_reducible refine (HP7.out).mono ?_)); rintro e w8 ⟨rfl, b8⟩; have hb8 := hb7.trans (b8.mono hb7.size); have HB8 := Lib.hid (Blk.below HB7.out b8 HB7.out.lt); have HC8 := Lib.hid (Blk.below HC7.out b8 HC7.out.lt); obtain ⟨x0, x1, x2, x3, x4⟩ := box_cells HB8.out; obtain ⟨y0, y1, y2, y3, y4⟩ := box_cells HC8.out))
  go_wp2
  go_ret
  exact ⟨rfl, hb8⟩

/-! ### THE ROW's STEP -/
theorem own : ownKnob Try.prog.godebug = none := by kernel_rfl
theorem laidOut : laidOutB Try.prog = true := by kernel_rfl

theorem contract (H : Type) (enc : TypeId × Value → H) (W : World) (base : Nat) (args : Array Value) (ds gs : List (DataW H)) (before : List MemPlace)
    (hval0 : ∀ (j : Nat) t v, Try.f5.params[j]? = some t → args[j]? = some v → Value.okWide Try.prog W .any base t v)
    (hW : DataW.Whole enc Try.prog Try.f5.params.toList Rows.valueSamesSpec.vars false W args.toList ds gs before)
    (hsz : (DataW.weightsEach Try.prog (Try.f5.params.toList ++ (OpenSpec.ofChange Rows.valueSamesSpec).bare.plain.varTypes Try.prog) (ds ++ gs)).all (· ≤ reachBytes) = true) :
    Calls Try.prog 5 args W fun e W' => ∃ v, e = .returned v ∧ Rows.valueSamesSpec.post enc Try.prog Try.f5 false true false false W args v W' := by
  have hval : ∀ (j : Nat) t v, Try.f5.params[j]? = some t → args[j]? = some v → Value.okWide Try.prog W .any base t v := hval0
  have hW' := hW
  obtain ⟨p, q, hA0, hV, rfl, hfz, hnd⟩ := hW
  have hA : DataW.TrodAll enc Try.prog W 0 (fun _ => true) true Try.f5.params.toList args.toList ds p := hA0
  rw [Try.params5] at hA hval
  obtain ⟨v0, vs0, d0, ds0, p0, q0, hargs, rfl, rfl, h0, r0⟩ := trodAll_cons hA
  obtain ⟨v1, vs1, d1, ds1, p1, q1, rfl, rfl, rfl, h1, r1⟩ := trodAll_cons r0
  obtain ⟨rfl, rfl, rfl⟩ := trodAll_nil r1
  obtain rfl : args = #[v0, v1] := by cases args; simp_all
  obtain ⟨rfl, rfl⟩ := trodVars_none hV
  have k0 := h0
  have lt0 : ∀ x ∈ p0, x.block < W.heap.size := by obtain ⟨m, hm⟩ := k0; exact DataW.trod_lt m _ _ _ hm
  have w0 := reach_at hsz (j := 0) rfl rfl
  have k1 := h1
  have lt1 : ∀ x ∈ p1, x.block < W.heap.size := by obtain ⟨m, hm⟩ := k1; exact DataW.trod_lt m _ _ _ hm
  have w1 := reach_at hsz (j := 1) rfl rfl
  clear hA0 hval0 hsz
  obtain ⟨val0, A0, c0, B0, d0, rfl, hx0⟩ := open_value (hval 0 _ v0 rfl rfl) w0 h0 lt0
  obtain ⟨val1, A1, c1, B1, d1, rfl, hx1⟩ := open_value (hval 1 _ v1 rfl rfl) w1 h1 lt1
  refine (walk W hx0 hx1).mono fun e W' ⟨he, bel⟩ => ?_
  subst he
  exact ⟨_, rfl, _, _, _, [], _, [], hW', trodAll_mk1 (shut_bool Try.underlying4 _), (trodAll_cons_mk (Below.trod laidOut (by kernel_rfl) (of_decide_eq_true (by kernel_rfl)) k0 bel lt0) (trodAll_cons_mk (Below.trod laidOut (by kernel_rfl) (of_decide_eq_true (by kernel_rfl)) k1 bel lt1) trodAll_mk0)), rfl, bel.frame _, fun h => by cases h⟩

set_option maxRecDepth 100000 in
theorem lifted (os : Os) (started : os.Started) (H : Type) (enc : TypeId × Value → H) :
    ReturnsInHanded {} Try.checked os 5 .any (Rows.valueSamesSpec.pre6 enc Try.prog Try.f5 Rows.valueSamesRow.domain false) (Rows.valueSamesSpec.post enc Try.prog Try.f5 false true false false) := by
  refine returnsInHanded_of_change_sized (C := Try.checked) own started (by kernel_rfl) Try.func5
    (ChangeSpec.witness6 (enc := enc) (C := Try.checked) false ⟨#[], #[.agg #[.int .i64 0, .int .i64 0, .string ⟨#[]⟩, .slice none 0 0, .slice none 0 0], .agg #[.int .i64 0, .int .i64 0, .string ⟨#[]⟩, .slice none 0 0, .slice none 0 0]], []⟩ 8 (by kernel_rfl) (by kernel_rfl) (by kernel_rfl) (by kernel_rfl)) ?_
  intro W base args ds gs before hval hW _ hsz _
  exact contract H enc W base args ds gs before hval hW hsz

/-- THE STATEMENT -/
theorem proved : Rows.ValueSamesSaid :=
  OpenClaim.holds_of_wide 5 Try.f5 rfl rfl rfl rfl rfl rfl rfl ⟨rfl, rfl, rfl, rfl, rfl⟩ rfl rfl rfl rfl rfl (by kernel_rfl) Try.func5 (by kernel_rfl)
    (of_decide_eq_true (by kernel_rfl)) (by unfold Func.isWrapper; rw [if_neg (of_decide_eq_false (by kernel_rfl))]; exact ⟨rfl, rfl⟩)
    (fun os started H enc _ => lifted os started H enc)
end Go.Proofs.Ytcopofdoelcgcaa.valueSames
