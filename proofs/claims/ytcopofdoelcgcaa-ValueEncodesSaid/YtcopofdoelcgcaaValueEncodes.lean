/- For every value, right or not, Encode gives exactly the document's bytes or error, Weight gives their number, and the value stays as it was. -/
import Derived.Test.YtcopofdoelcgcaaOpen
import Derived.Test.YtcopofdoelcgcaaRows
import Derived.Test.YtcopofdoelcgcaaValSpeak
import Derived.Test.YtcopofdoelcgcaaValEnc4
import Derived.Test.YtcopofdoelcgcaaValSame3
import Derived.Deep.RegionHeld3
import Derived.Deep.Cut
namespace Go.Proofs.Ytcopofdoelcgcaa.valueEncodes
open Go.ChangeShapes Go.WideShapes Go.ChangeAt Go.RowKit
open Go.ChangeMaps (open_string shut_string)
set_option linter.unusedVariables false

theorem encV_le (v : Vv) : (encV v).length ≤ 40402 := by
  by_cases h : chk v = 0
  · rw [encV_ok h]; exact encB_le ((right_iff v).1 h)
  · rw [encV_no h]; simp

set_option maxRecDepth 100000 in
set_option maxHeartbeats 2000000 in
theorem walk (w : World) {v : Vv} {A : Option Addr} {c : Nat} {A' : Option Addr} {c' : Nat} (hx : VR w w.heap.size v (vagg v A c A' c')) :
    Calls Try.prog 6 #[vagg v A c A' c'] w fun e w' => e = .returned (.bool true) ∧ Below w.heap.size w w' := by
  obtain ⟨k, n, s, ns, ts⟩ := v
  unfold vagg at hx ⊢
  simp only at hx ⊢
  go_enter Try.func6, Try.ntmps6
  go_wp2_with fail
  obtain ⟨wo, hwo⟩ : ∃ x, x = w.alloc (.cells #[.int .i64 k, .int .i64 n, .string s, .slice A ns.length c, .slice A' ts.length c'] 26) := ⟨_, rfl⟩
  rw [← hwo]
  have Bo : Blk wo w.heap.size 26 #[.int .i64 k, .int .i64 n, .string s, .slice A ns.length c, .slice A' ts.length c'] := by subst hwo; exact Blk.new _ _ _
  have hb0 : Below w.heap.size w wo := by subst hwo; exact (Below.refl _ _).alloc (Nat.le_refl _) _
  clear hwo
  refine (vspeaks_any wo).mono ?_
  rintro e w1 ⟨rfl, b1⟩
  have B1 := Bo.below b1 Bo.lt
  have hb1 := hb0.trans (b1.mono hb0.size)
  have hx1 := hx.below hb1
  clear Bo hb0 b1
  obtain ⟨x0, x1, x2, x3, x4⟩ := box_cells B1
  go_wp2_with fail
  refine (refCopy_any ⟨k, n, s, ns, ts⟩ _ w.heap.size w1 hx1 hb1.size).mono ?_
  rintro e w2 ⟨y, rfl, ⟨A2, c2, A3, c3, rfl, r2, r3, ok2⟩, b2⟩
  unfold vagg
  have B2 := B1.below b2 B1.lt
  have hb2 := hb1.trans (b2.mono hb1.size)
  have hs2 := hb2.size
  clear x0 x1 x2 x3 x4 B1 b2 hb1 hx1
  obtain ⟨w3, hw3⟩ : ∃ x, x = w2.alloc (.cells #[.int .i64 k, .int .i64 n, .string s, .slice A2 ns.length c2, .slice A3 ts.length c3] 26) := ⟨_, rfl⟩
  have B3 : Blk w3 w.heap.size 26 #[.int .i64 k, .int .i64 n, .string s, .slice A ns.length c, .slice A' ts.length c'] := by rw [hw3]; exact B2.alloc _
  have C3 : Blk w3 w2.heap.size 26 #[.int .i64 k, .int .i64 n, .string s, .slice A2 ns.length c2, .slice A3 ts.length c3] := by rw [hw3]; exact Blk.new _ _ _
  have hb3 : Below w.heap.size w w3 := by rw [hw3]; exact hb2.alloc hb2.size _
  have hy3 : VR w3 w2.heap.size ⟨k, n, s, ns, ts⟩ (.agg #[.int .i64 k, .int .i64 n, .string s, .slice A2 ns.length c2, .slice A3 ts.length c3]) := by
    rw [hw3]
    exact ⟨A2, c2, A3, c3, rfl, r2.alloc (Nat.le_refl _) _, r3.alloc (Nat.le_refl _) _, ok2⟩
  have HW3 := Lib.hid hw3
  have hl3 := C3.lt
  clear hw3 B2 hb2 r2 r3 ok2
  have HE0 := Encode_any ⟨k, n, s, ns, ts⟩ _ w2.heap.size w3 hy3 (by omega)
  unfold EncPost at HE0
  have HRE := Lib.hid fun w' h1 h2 => refEncode_any ⟨k, n, s, ns, ts⟩ (.agg #[.int .i64 k, .int .i64 n, .string s, .slice A ns.length c, .slice A' ts.length c']) w.heap.size w' h1 h2
  have HWE := Lib.hid fun w' h1 h2 => Weight_any ⟨k, n, s, ns, ts⟩ (.agg #[.int .i64 k, .int .i64 n, .string s, .slice A2 ns.length c2, .slice A3 ts.length c3]) w2.heap.size w' h1 h2
  have HRC := Lib.hid fun w' h1 h2 => refCheck_any ⟨k, n, s, ns, ts⟩ (.agg #[.int .i64 k, .int .i64 n, .string s, .slice A ns.length c, .slice A' ts.length c']) w.heap.size w' h1 h2
  have hXle : (encV ⟨k, n, s, ns, ts⟩).length ≤ maxLen := by have := encV_le ⟨k, n, s, ns, ts⟩; unfold maxLen; omega
  obtain ⟨E, hE⟩ : ∃ E, E = chk ⟨k, n, s, ns, ts⟩ := ⟨_, rfl⟩
  obtain ⟨X, hX⟩ : ∃ X, X = encV ⟨k, n, s, ns, ts⟩ := ⟨_, rfl⟩
  rw [← hE, ← hX] at HE0
  rw [← hX] at HRE HWE hXle
  rw [← hE] at HRC
  have HE := Lib.hid HE0
  have HXl := Lib.hid hXle
  clear hE hX HE0 hXle
  go_upto_region 4 with fail
  rw [← HW3.out]
  obtain ⟨y0, y1, y2, y3, y4⟩ := box_cells C3
  go_wp2_with fail
  refine (HE.out).mono ?_
  rintro e w4 ⟨z, rfl, hz, b4⟩
  obtain ⟨A4, c4, rfl, -, -, r4, -⟩ := hz.form
  have B4 := B3.below b4 B3.lt
  have C4 := C3.below b4 hl3
  have hb4 := hb3.trans (b4.mono hb3.size)
  have hy4 := hy3.below (b4.mono (by omega))
  have hs4 := b4.size
  clear y0 y1 y2 y3 y4 B3 C3 b4 hb3 hy3 hz
  obtain ⟨x0, x1, x2, x3, x4⟩ := box_cells B4
  obtain ⟨y0, y1, y2, y3, y4⟩ := box_cells C4
  have HRS := Lib.hid fun w' h1 h2 (h3 : w2.heap.size ≤ w'.heap.size) => refSame_any ⟨k, n, s, ns, ts⟩ ⟨k, n, s, ns, ts⟩ (.agg #[.int .i64 k, .int .i64 n, .string s, .slice A2 ns.length c2, .slice A3 ts.length c3]) (.agg #[.int .i64 k, .int .i64 n, .string s, .slice A ns.length c, .slice A' ts.length c']) w2.heap.size w' h1 h2 h3
  rw [sameV_self] at HRS
  have heq : (E == E) = true := by simp
  have heq2 : ((X.length : Int) == (X.length : Int)) = true := by simp
  have HB4 := Lib.hid B4
  have HC4 := Lib.hid C4
  have Hb4 := Lib.hid hb4
  have Hy4 := Lib.hid hy4
  have Hr4 := Lib.hid r4
  have HP0 := HRC.out (w4.drewN 1) (hx.below (below_drewN hb4 1)) (by show w.heap.size ≤ w4.heap.size; omega)
  have e1 : w4.drewN 1 = w4.drew := rfl
  rw [e1] at HP0
  have HP1 := Lib.hid HP0
  clear HP0 e1
  have hBl := B4.lt
  have hCl := C4.lt
  clear B4 C4 hb4 hy4 r4 HE
  go_wp2_with fail
  go_region_held3 (fun w' => w'.cell? ⟨w.heap.size, 0, none⟩ = some (.int .i64 k) ∧ w'.cell? ⟨w.heap.size, 1, none⟩ = some (.int .i64 n) ∧ w'.cell? ⟨w.heap.size, 2, none⟩ = some (.string s) ∧ w'.cell? ⟨w.heap.size, 3, none⟩ = some (.slice A ns.length c) ∧ w'.cell? ⟨w.heap.size, 4, none⟩ = some (.slice A' ts.length c') ∧ w'.cell? ⟨w2.heap.size, 0, none⟩ = some (.int .i64 k) ∧ w'.cell? ⟨w2.heap.size, 1, none⟩ = some (.int .i64 n) ∧ w'.cell? ⟨w2.heap.size, 2, none⟩ = some (.string s) ∧ w'.cell? ⟨w2.heap.size, 3, none⟩ = some (.slice A2 ns.length c2) ∧ w'.cell? ⟨w2.heap.size, 4, none⟩ = some (.slice A3 ts.length c3)) (go_keep)
    (first
      | (go_at_call 16; ((with_reducible refine (HP1.out).mono ?_)); rintro e w5 ⟨rfl, b5⟩; have hb5 : Below w.heap.size w w5 := Below.trans (below_drewN Hb4.out 1) (b5.mono (show w.heap.size ≤ w4.heap.size by omega)); have hs5 : w4.heap.size ≤ w5.heap.size := b5.size; have hy5 := Hy4.out.below (Below.trans (below_of_drewN w4 1) (b5.mono (show w2.heap.size ≤ w4.heap.size by omega))); have r5 := Hr4.out.below (Below.trans (below_of_drewN w4 1) (b5.mono (show w4.heap.size ≤ w4.heap.size by omega))); have HB5 := Lib.hid (Blk.below (Blk.drewN HB4.out 1) b5 hBl); have HC5 := Lib.hid (Blk.below (Blk.drewN HC4.out 1) b5 hCl); obtain ⟨x0, x1, x2, x3, x4⟩ := box_cells HB5.out; obtain ⟨y0, y1, y2, y3, y4⟩ := box_cells HC5.out; have HP2 := Lib.hid (HRE.out w5 (hx.below hb5) hb5.size))
      | (go_at_call 21; ((with_reducible refine (HP2.out).mono ?_)); rintro e w6 ⟨z6, rfl, hz6, b6⟩; obtain ⟨A6, c6, rfl, -, -, r6, -⟩ := hz6.form; have hb6 := hb5.trans (b6.mono hb5.size); have hs6 := b6.size; have hy6 := hy5.below (b6.mono (show w2.heap.size ≤ w5.heap.size by omega)); have r46 := r5.below (b6.mono hs5); have HB6 := Lib.hid (Blk.below HB5.out b6 HB5.out.lt); have HC6 := Lib.hid (Blk.below HC5.out b6 HC5.out.lt); obtain ⟨x0, x1, x2, x3, x4⟩ := box_cells HB6.out; obtain ⟨y0, y1, y2, y3, y4⟩ := box_cells HC6.out; have HP3 := Lib.hid (same_yes A4 A6 _ c4 c6 _ _ X w6 r46 r6 rfl HXl.out))
      | (go_at_call 20; ((with_reducible refine (HP3.out).mono ?_)); rintro e w7 ⟨rfl, n7, rfl⟩; have hb7 := below_drewN hb6 n7; have hy7 := hy6.drewN n7; have HB7 := Lib.hid (Blk.drewN HB6.out n7); have HC7 := Lib.hid (Blk.drewN HC6.out n7); have hs7 : w2.heap.size ≤ (w6.drewN n7).heap.size := (show w2.heap.size ≤ w6.heap.size by omega); have HP4 := Lib.hid (HWE.out (w6.drewN n7) hy7 hs7))
      | (go_at_call 22; ((with_reducible refine (HP4.out).mono ?_)); rintro e w8 ⟨rfl, b8⟩; have hb8 := hb7.trans (b8.mono hb7.size); have hs8 : w2.heap.size ≤ w8.heap.size := Nat.le_trans hs7 b8.size; have hy8 := hy7.below (b8.mono hs7); have HB8 := Lib.hid (Blk.below HB7.out b8 HB7.out.lt); have HC8 := Lib.hid (Blk.below HC7.out b8 HC7.out.lt); obtain ⟨x0, x1, x2, x3, x4⟩ := box_cells HB8.out; obtain ⟨y0, y1, y2, y3, y4⟩ := box_cells HC8.out; have HP5 := Lib.hid (HRE.out w8 (hx.below hb8) hb8.size))
      | (go_at_call 21; ((with_reducible refine (HP5.out).mono ?_)); rintro e w9 ⟨z9, rfl, hz9, b9⟩; obtain ⟨A9, c9, rfl, -, -, -, -⟩ := hz9.form; have hb9 := hb8.trans (b9.mono hb8.size); have hs9 := Nat.le_trans hs8 b9.size; have hy9 := hy8.below (b9.mono hs8); have HB9 := Lib.hid (Blk.below HB8.out b9 HB8.out.lt); have HC9 := Lib.hid (Blk.below HC8.out b9 HC8.out.lt); obtain ⟨x0, x1, x2, x3, x4⟩ := box_cells HB9.out; obtain ⟨y0, y1, y2, y3, y4⟩ := box_cells HC9.out; have HP6 := Lib.hid (HRS.out w9 hy9 ((hx.below hb9).more hs2) hs9))
      | (go_at_call 17; ((with_reducible refine (HP6.out).mono ?_)); rintro e w10 ⟨rfl, b10⟩; have hb10 := hb9.trans (b10.mono hb9.size); have HB10 := Lib.hid (Blk.below HB9.out b10 HB9.out.lt); have HC10 := Lib.hid (Blk.below HC9.out b10 HC9.out.lt); obtain ⟨x0, x1, x2, x3, x4⟩ := box_cells HB10.out; obtain ⟨y0, y1, y2, y3, y4⟩ := box_cells HC10.out))
  go_wp2
  go_ret
  exact ⟨rfl, hb10⟩

/-! ### THE ROW's STEP -/
theorem own : ownKnob Try.prog.godebug = none := by kernel_rfl
theorem laidOut : laidOutB Try.prog = true := by kernel_rfl

theorem contract (H : Type) (enc : TypeId × Value → H) (W : World) (base : Nat) (args : Array Value) (ds gs : List (DataW H)) (before : List MemPlace)
    (hval0 : ∀ (j : Nat) t v, Try.f6.params[j]? = some t → args[j]? = some v → Value.okWide Try.prog W .any base t v)
    (hW : DataW.Whole enc Try.prog Try.f6.params.toList Rows.valueEncodesSpec.vars false W args.toList ds gs before)
    (hsz : (DataW.weightsEach Try.prog (Try.f6.params.toList ++ (OpenSpec.ofChange Rows.valueEncodesSpec).bare.plain.varTypes Try.prog) (ds ++ gs)).all (· ≤ reachBytes) = true) :
    Calls Try.prog 6 args W fun e W' => ∃ v, e = .returned v ∧ Rows.valueEncodesSpec.post enc Try.prog Try.f6 false true false false W args v W' := by
  have hval : ∀ (j : Nat) t v, Try.f6.params[j]? = some t → args[j]? = some v → Value.okWide Try.prog W .any base t v := hval0
  have hW' := hW
  obtain ⟨p, q, hA0, hV, rfl, hfz, hnd⟩ := hW
  have hA : DataW.TrodAll enc Try.prog W 0 (fun _ => true) true Try.f6.params.toList args.toList ds p := hA0
  rw [Try.params6] at hA hval
  obtain ⟨v0, vs0, d0, ds0, p0, q0, hargs, rfl, rfl, h0, r0⟩ := trodAll_cons hA
  obtain ⟨rfl, rfl, rfl⟩ := trodAll_nil r0
  obtain rfl : args = #[v0] := by cases args; simp_all
  obtain ⟨rfl, rfl⟩ := trodVars_none hV
  have k0 := h0
  have lt0 : ∀ x ∈ p0, x.block < W.heap.size := by obtain ⟨m, hm⟩ := k0; exact DataW.trod_lt m _ _ _ hm
  have w0 := reach_at hsz (j := 0) rfl rfl
  clear hA0 hval0 hsz
  obtain ⟨val0, A0, c0, B0, d0, rfl, hx0⟩ := open_value (hval 0 _ v0 rfl rfl) w0 h0 lt0
  refine (walk W hx0).mono fun e W' ⟨he, bel⟩ => ?_
  subst he
  exact ⟨_, rfl, _, _, _, [], _, [], hW', trodAll_mk1 (shut_bool Try.underlying4 _), (trodAll_cons_mk (Below.trod laidOut (by kernel_rfl) (of_decide_eq_true (by kernel_rfl)) k0 bel lt0) trodAll_mk0), rfl, bel.frame _, fun h => by cases h⟩

set_option maxRecDepth 100000 in
theorem lifted (os : Os) (started : os.Started) (H : Type) (enc : TypeId × Value → H) :
    ReturnsInHanded {} Try.checked os 6 .any (Rows.valueEncodesSpec.pre6 enc Try.prog Try.f6 Rows.valueEncodesRow.domain false) (Rows.valueEncodesSpec.post enc Try.prog Try.f6 false true false false) := by
  refine returnsInHanded_of_change_sized (C := Try.checked) own started (by kernel_rfl) Try.func6
    (ChangeSpec.witness6 (enc := enc) (C := Try.checked) false ⟨#[], #[.agg #[.int .i64 0, .int .i64 0, .string ⟨#[]⟩, .slice none 0 0, .slice none 0 0]], []⟩ 8 (by kernel_rfl) (by kernel_rfl) (by kernel_rfl) (by kernel_rfl)) ?_
  intro W base args ds gs before hval hW _ hsz _
  exact contract H enc W base args ds gs before hval hW hsz

/-- THE STATEMENT -/
theorem proved : Rows.ValueEncodesSaid :=
  OpenClaim.holds_of_wide 6 Try.f6 rfl rfl rfl rfl rfl rfl rfl ⟨rfl, rfl, rfl, rfl, rfl⟩ rfl rfl rfl rfl rfl (by kernel_rfl) Try.func6 (by kernel_rfl)
    (of_decide_eq_true (by kernel_rfl)) (by unfold Func.isWrapper; rw [if_neg (of_decide_eq_false (by kernel_rfl))]; exact ⟨rfl, rfl⟩)
    (fun os started H enc _ => lifted os started H enc)
end Go.Proofs.Ytcopofdoelcgcaa.valueEncodes
