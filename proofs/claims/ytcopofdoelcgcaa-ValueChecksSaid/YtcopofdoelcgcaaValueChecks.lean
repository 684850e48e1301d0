/- For every value, right or not, Check tells exactly the first thing that is wrong, and the value stays as it was. -/
import Derived.Test.YtcopofdoelcgcaaOpen
import Derived.Test.YtcopofdoelcgcaaRows
import Derived.Test.YtcopofdoelcgcaaValSpeak
import Derived.Test.YtcopofdoelcgcaaValEnc4
import Derived.Test.YtcopofdoelcgcaaValSame3
import Derived.Deep.RegionHeld3
import Derived.Deep.Cut
namespace Go.Proofs.Ytcopofdoelcgcaa.valueChecks
open Go.ChangeShapes Go.WideShapes Go.ChangeAt Go.RowKit
open Go.ChangeMaps (open_string shut_string)
set_option linter.unusedVariables false

set_option maxRecDepth 100000 in
set_option maxHeartbeats 2000000 in
theorem walk (w : World) {v : Vv} {A : Option Addr} {c : Nat} {A' : Option Addr} {c' : Nat} (hx : VR w w.heap.size v (vagg v A c A' c')) :
    Calls Try.prog 4 #[vagg v A c A' c'] w fun e w' => e = .returned (.bool true) ∧ Below w.heap.size w w' := by
  obtain ⟨k, n, s, ns, ts⟩ := v
  unfold vagg at hx ⊢
  simp only at hx ⊢
  go_enter Try.func4, Try.ntmps4
  go_wp2_with fail
  obtain ⟨wo, hwo⟩ : ∃ x, x = w.alloc (.cells #[.int .i64 k, .int .i64 n, .string s, .slice A ns.length c, .slice A' ts.length c'] 26) := ⟨_, rfl⟩
  rw [← hwo]
  have Bo : Blk wo w.heap.size 26 #[.int .i64 k, .int .i64 n, .string s, .slice A ns.length c, .slice A' ts.length c'] := by subst hwo; exact Blk.new _ _ _
  have hb0 : Below w.heap.size w wo := by subst hwo; exact (Below.refl _ _).alloc (Nat.le_refl _) _
  clear hwo
  refine (vspeaks_any wo).mono ?_
  rintro e w1 ⟨rfl, b1⟩
  have B1 := Bo.below b1 Bo.lt
  have hb1 := hb0.trans (b1.mono hb0.size)
  have hx1 := hx.below hb1
  clear Bo hb0 b1
  obtain ⟨x0, x1, x2, x3, x4⟩ := box_cells B1
  go_wp2_with fail
  refine (refCopy_any ⟨k, n, s, ns, ts⟩ _ w.heap.size w1 hx1 hb1.size).mono ?_
  rintro e w2 ⟨y, rfl, ⟨A2, c2, A3, c3, rfl, r2, r3, ok2⟩, b2⟩
  unfold vagg
  have B2 := B1.below b2 B1.lt
  have hb2 := hb1.trans (b2.mono hb1.size)
  have hs2 := hb2.size
  clear x0 x1 x2 x3 x4 B1 b2 hb1 hx1
  obtain ⟨w3, hw3⟩ : ∃ x, x = w2.alloc (.cells #[.int .i64 k, .int .i64 n, .string s, .slice A2 ns.length c2, .slice A3 ts.length c3] 26) := ⟨_, rfl⟩
  have B3 : Blk w3 w.heap.size 26 #[.int .i64 k, .int .i64 n, .string s, .slice A ns.length c, .slice A' ts.length c'] := by rw [hw3]; exact B2.alloc _
  have C3 : Blk w3 w2.heap.size 26 #[.int .i64 k, .int .i64 n, .string s, .slice A2 ns.length c2, .slice A3 ts.length c3] := by rw [hw3]; exact Blk.new _ _ _
  have hb3 : Below w.heap.size w w3 := by rw [hw3]; exact hb2.alloc hb2.size _
  have hy3 : VR w3 w2.heap.size ⟨k, n, s, ns, ts⟩ (.agg #[.int .i64 k, .int .i64 n, .string s, .slice A2 ns.length c2, .slice A3 ts.length c3]) := by
    rw [hw3]
    exact ⟨A2, c2, A3, c3, rfl, r2.alloc (Nat.le_refl _) _, r3.alloc (Nat.le_refl _) _, ok2⟩
  have HW3 := Lib.hid hw3
  have hl3 := C3.lt
  clear hw3 B2 hb2 r2 r3 ok2
  have HC := Lib.hid (Check_any ⟨k, n, s, ns, ts⟩ _ w2.heap.size (w3.drewN 1) (hy3.drewN 1) (by show w2.heap.size ≤ w3.heap.size; omega))
  obtain ⟨E, hE⟩ : ∃ E, E = chk ⟨k, n, s, ns, ts⟩ := ⟨_, rfl⟩
  have hRC : ∀ w', VR w' w.heap.size ⟨k, n, s, ns, ts⟩ (.agg #[.int .i64 k, .int .i64 n, .string s, .slice A ns.length c, .slice A' ts.length c']) → w.heap.size ≤ w'.heap.size → _ := fun w' h1 h2 => refCheck_any ⟨k, n, s, ns, ts⟩ _ w.heap.size w' h1 h2
  have HRC := Lib.hid hRC
  rw [← hE] at HC HRC
  clear hE hRC
  go_wp2_with fail
  rw [← HW3.out]
  obtain ⟨x0, x1, x2, x3, x4⟩ := box_cells B3
  obtain ⟨y0, y1, y2, y3, y4⟩ := box_cells C3
  have HRS := Lib.hid fun w' h1 h2 (h3 : w2.heap.size ≤ w'.heap.size) => refSame_any ⟨k, n, s, ns, ts⟩ ⟨k, n, s, ns, ts⟩ (.agg #[.int .i64 k, .int .i64 n, .string s, .slice A2 ns.length c2, .slice A3 ts.length c3]) (.agg #[.int .i64 k, .int .i64 n, .string s, .slice A ns.length c, .slice A' ts.length c']) w2.heap.size w' h1 h2 h3
  rw [sameV_self] at HRS
  have heq : (E == E) = true := by simp
  have HB3 := Lib.hid B3
  have HC3 := Lib.hid C3
  have Hb3 := Lib.hid hb3
  have Hy3 := Lib.hid hy3
  have hl3' := B3.lt
  clear B3 C3 hb3 hy3
  go_region_held3 (fun w' => w'.cell? ⟨w.heap.size, 0, none⟩ = some (.int .i64 k) ∧ w'.cell? ⟨w.heap.size, 1, none⟩ = some (.int .i64 n) ∧ w'.cell? ⟨w.heap.size, 2, none⟩ = some (.string s) ∧ w'.cell? ⟨w.heap.size, 3, none⟩ = some (.slice A ns.length c) ∧ w'.cell? ⟨w.heap.size, 4, none⟩ = some (.slice A' ts.length c') ∧ w'.cell? ⟨w2.heap.size, 0, none⟩ = some (.int .i64 k) ∧ w'.cell? ⟨w2.heap.size, 1, none⟩ = some (.int .i64 n) ∧ w'.cell? ⟨w2.heap.size, 2, none⟩ = some (.string s) ∧ w'.cell? ⟨w2.heap.size, 3, none⟩ = some (.slice A2 ns.length c2) ∧ w'.cell? ⟨w2.heap.size, 4, none⟩ = some (.slice A3 ts.length c3)) (go_keep)
    (first
      | (go_at_call 15; refine (HC.out).mono ?_; rintro e w4 ⟨rfl, b4⟩; have HB4 := Lib.hid (Blk.below (Blk.drewN HB3.out 1) b4 hl3'); have HC4 := Lib.hid (Blk.below (Blk.drewN HC3.out 1) b4 hl3); have hb4 : Below w.heap.size w w4 := Below.trans (below_drewN Hb3.out 1) (b4.mono (show w.heap.size ≤ w3.heap.size by omega)); have hy4 := VR.below (VR.drewN Hy3.out 1) (b4.mono (show w2.heap.size ≤ w3.heap.size by omega)); have hs4 : w3.heap.size ≤ w4.heap.size := b4.size; obtain ⟨x0, x1, x2, x3, x4⟩ := box_cells HB4.out; obtain ⟨y0, y1, y2, y3, y4⟩ := box_cells HC4.out)
      | (go_at_call 16; refine (HRC.out w4 (hx.below hb4) hb4.size).mono ?_; rintro e w5 ⟨rfl, b5⟩; have hb5 := hb4.trans (b5.mono hb4.size); have hy5 := hy4.below (b5.mono (show w2.heap.size ≤ w4.heap.size by omega)); have hs5 : w4.heap.size ≤ w5.heap.size := b5.size; obtain ⟨x0, x1, x2, x3, x4⟩ := box_cells (HB4.out.below b5 HB4.out.lt); obtain ⟨y0, y1, y2, y3, y4⟩ := box_cells (HC4.out.below b5 HC4.out.lt); have HB5 := Lib.hid (HB4.out.below b5 HB4.out.lt); have HC5 := Lib.hid (HC4.out.below b5 HC4.out.lt))
      | (go_at_call 17; refine (HRS.out w5 hy5 ((hx.below hb5).more hs2) (by omega)).mono ?_; rintro e w6 ⟨rfl, b6⟩; have hb6 := hb5.trans (b6.mono hb5.size); obtain ⟨x0, x1, x2, x3, x4⟩ := box_cells (HB5.out.below b6 HB5.out.lt); obtain ⟨y0, y1, y2, y3, y4⟩ := box_cells (HC5.out.below b6 HC5.out.lt)))
  go_wp2
  go_ret
  exact ⟨rfl, hb6⟩

/-! ### THE ROW's STEP -/
theorem own : ownKnob Try.prog.godebug = none := by kernel_rfl
theorem laidOut : laidOutB Try.prog = true := by kernel_rfl

theorem contract (H : Type) (enc : TypeId × Value → H) (W : World) (base : Nat) (args : Array Value) (ds gs : List (DataW H)) (before : List MemPlace)
    (hval0 : ∀ (j : Nat) t v, Try.f4.params[j]? = some t → args[j]? = some v → Value.okWide Try.prog W .any base t v)
    (hW : DataW.Whole enc Try.prog Try.f4.params.toList Rows.valueChecksSpec.vars false W args.toList ds gs before)
    (hsz : (DataW.weightsEach Try.prog (Try.f4.params.toList ++ (OpenSpec.ofChange Rows.valueChecksSpec).bare.plain.varTypes Try.prog) (ds ++ gs)).all (· ≤ reachBytes) = true) :
    Calls Try.prog 4 args W fun e W' => ∃ v, e = .returned v ∧ Rows.valueChecksSpec.post enc Try.prog Try.f4 false true false false W args v W' := by
  have hval : ∀ (j : Nat) t v, Try.f4.params[j]? = some t → args[j]? = some v → Value.okWide Try.prog W .any base t v := hval0
  have hW' := hW
  obtain ⟨p, q, hA0, hV, rfl, hfz, hnd⟩ := hW
  have hA : DataW.TrodAll enc Try.prog W 0 (fun _ => true) true Try.f4.params.toList args.toList ds p := hA0
  rw [Try.params4] at hA hval
  obtain ⟨v0, vs0, d0, ds0, p0, q0, hargs, rfl, rfl, h0, r0⟩ := trodAll_cons hA
  obtain ⟨rfl, rfl, rfl⟩ := trodAll_nil r0
  obtain rfl : args = #[v0] := by cases args; simp_all
  obtain ⟨rfl, rfl⟩ := trodVars_none hV
  have k0 := h0
  have lt0 : ∀ x ∈ p0, x.block < W.heap.size := by obtain ⟨m, hm⟩ := k0; exact DataW.trod_lt m _ _ _ hm
  have w0 := reach_at hsz (j := 0) rfl rfl
  clear hA0 hval0 hsz
  obtain ⟨val0, A0, c0, B0, d0, rfl, hx0⟩ := open_value (hval 0 _ v0 rfl rfl) w0 h0 lt0
  refine (walk W hx0).mono fun e W' ⟨he, bel⟩ => ?_
  subst he
  exact ⟨_, rfl, _, _, _, [], _, [], hW', trodAll_mk1 (shut_bool Try.underlying4 _), (trodAll_cons_mk (Below.trod laidOut (by kernel_rfl) (of_decide_eq_true (by kernel_rfl)) k0 bel lt0) trodAll_mk0), rfl, bel.frame _, fun h => by cases h⟩

set_option maxRecDepth 100000 in
theorem lifted (os : Os) (started : os.Started) (H : Type) (enc : TypeId × Value → H) :
    ReturnsInHanded {} Try.checked os 4 .any (Rows.valueChecksSpec.pre6 enc Try.prog Try.f4 Rows.valueChecksRow.domain false) (Rows.valueChecksSpec.post enc Try.prog Try.f4 false true false false) := by
  refine returnsInHanded_of_change_sized (C := Try.checked) own started (by kernel_rfl) Try.func4
    (ChangeSpec.witness6 (enc := enc) (C := Try.checked) false ⟨#[], #[.agg #[.int .i64 0, .int .i64 0, .string ⟨#[]⟩, .slice none 0 0, .slice none 0 0]], []⟩ 8 (by kernel_rfl) (by kernel_rfl) (by kernel_rfl) (by kernel_rfl)) ?_
  intro W base args ds gs before hval hW _ hsz _
  exact contract H enc W base args ds gs before hval hW hsz

/-- THE STATEMENT -/
theorem proved : Rows.ValueChecksSaid :=
  OpenClaim.holds_of_wide 4 Try.f4 rfl rfl rfl rfl rfl rfl rfl ⟨rfl, rfl, rfl, rfl, rfl⟩ rfl rfl rfl rfl rfl (by kernel_rfl) Try.func4 (by kernel_rfl)
    (of_decide_eq_true (by kernel_rfl)) (by unfold Func.isWrapper; rw [if_neg (of_decide_eq_false (by kernel_rfl))]; exact ⟨rfl, rfl⟩)
    (fun os started H enc _ => lifted os started H enc)
end Go.Proofs.Ytcopofdoelcgcaa.valueChecks
