/- How many slots any value takes is told exactly. utf8's tables stand as the program's text lays them (the card ties them; no walk reads them). -/
import Derived.Test.YtgpahglmhnnobaaDoorOpen
import Derived.Test.YtgpahglmhnnobaaDoorCards
import Derived.Test.YtgpahglmhnnobaaDoorTie
import Derived.Deep.DeepHandedRow
import Derived.Lib.LaidTab
import Derived.Test.YtgpahglmhnnobaaDoorSlSpeak
import Derived.Test.YtgpahglmhnnobaaDoorSlLaid
import Derived.Test.YtgpahglmhnnobaaDoorValEnc4
import Derived.Test.YtgpahglmhnnobaaDoorValOpen
namespace Go.Proofs.YtgpahglmhnnobaaDoor.slotsNeeds
open Go.ChangeShapes Go.WideShapes Go.ChangeAt Go.RowKit
open Go.ChangeMaps (open_string shut_string)
set_option linter.unusedVariables false
set_option linter.unusedSimpArgs false

set_option maxHeartbeats 800000 in
theorem refNeed_any (v : Vv) (x : Value) (B : Nat) (w : World) (h : VR w B v x) (hB : B ≤ w.heap.size) :
    Calls Tryd.prog 11 #[x] w fun e w' => e = .returned (.int .i64 (if chk v = 0 then (need (encB v).length : Int) else 0)) ∧ Below w.heap.size w w' := by
  obtain ⟨A, c, A', c', rfl, h1, h2, h3⟩ := h
  have hV : VR w B v (vagg v A c A' c') := ⟨A, c, A', c', rfl, h1, h2, h3⟩
  obtain ⟨wo, hwo⟩ : ∃ x, x = w.alloc (.cells #[.int .i64 v.k, .int .i64 v.n, .string v.s, .slice A v.ns.length c, .slice A' v.ts.length c'] 26) := ⟨_, rfl⟩
  have hVo : VR wo B v (vagg v A c A' c') := by subst hwo; exact hV.alloc hB _
  have hb0 : Below w.heap.size w wo := by subst hwo; exact (Below.refl _ _).alloc (Nat.le_refl _) _
  have hC := refEncode_any v _ B wo hVo (by have := hb0.size; omega)
  unfold NewB at hC
  have HW := Lib.hid hwo
  have HB0 := Lib.hid hb0
  have hz1 : chk v ≠ 0 → encV v = [] := fun h => encV_no h
  have hz2 : chk v = 0 → (encV v).length = (encB v).length ∧ 0 < (encV v).length ∧ (encV v).length ≤ 40402 := fun h => by
    rw [encV_ok h]
    exact ⟨rfl, by unfold encB encHead; simp, encB_small h⟩
  clear h1 h2 h3 hV hwo hVo
  unfold vagg at hC ⊢
  by_cases h0 : chk v = 0
  · rw [if_pos h0]
    obtain ⟨e1, e2, e3⟩ := hz2 h0
    rw [← e1]
    obtain ⟨n, HN⟩ : ∃ n, Hid (n = (encV v).length) := ⟨_, Lib.hid rfl⟩
    rw [← HN.out] at e2 e3 ⊢
    have HC := Lib.hid hC
    have hne : ((n : Int) == 0) = false := beq_eq_false_iff_ne.2 (by omega)
    have hnr := need_room n
    obtain ⟨q, HQ⟩ : ∃ q, Hid (q = need n) := ⟨_, Lib.hid rfl⟩
    rw [← HQ.out] at hnr ⊢
    clear e1 hz1 hz2 h0 hb0 hC
    go_enter Tryd.func11, Tryd.ntmps11
    go_wp2_with fail
    rw [← HW.out]
    refine (HC.out).mono ?_
    rintro e w1 ⟨y, rfl, ho, b1⟩
    obtain ⟨Ay, cy, rfl, -, -, -, -⟩ := ho.form
    have HB1 := Lib.hid (HB0.out.trans (b1.mono HB0.out.size))
    rw [← HN.out]
    clear b1 ho HC
    go_wp2
    go_loopw [4] (fun i wr => ∃ k : Nat, k ≤ q ∧ i = .int .i64 k ∧ wr = w1) (fun i _ => q - (intOf i).toNat)
    case atStart => exact ⟨0, Nat.zero_le _, rfl, rfl⟩
    case round =>
      obtain ⟨k, hk, rfl, rfl⟩ := hrel
      by_cases hlt : 8 * k < n + 2
      · have hlt2 : 8 * (k : Int) < (n : Int) + 2 := by omega
        go_wp2
        go_roundw
        case rel => exact ⟨k + 1, by omega, by go_num, trivial⟩
        case measure => simp [intOf]; omega
      · have hlt2 : ¬ 8 * (k : Int) < (n : Int) + 2 := by omega
        obtain rfl : k = q := by omega
        go_wp2
        go_ret
        exact ⟨rfl, HB1.out⟩
  · rw [if_neg h0]
    rw [hz1 h0] at hC
    have HC := Lib.hid hC
    clear hz1 hz2 h0 hb0 hC
    go_enter Tryd.func11, Tryd.ntmps11
    go_wp2_with fail
    rw [← HW.out]
    refine (HC.out).mono ?_
    rintro e w1 ⟨y, rfl, ho, b1⟩
    obtain ⟨Ay, cy, rfl, -, -, -, -⟩ := ho.form
    have HB1 := Lib.hid (HB0.out.trans (b1.mono HB0.out.size))
    clear b1 ho HC
    go_wp2
    go_ret
    exact ⟨rfl, HB1.out⟩
theorem vcells {w : World} {g : Nat} {a b c d e : Value} (h : Blk w g 26 #[a, b, c, d, e]) : w.cell? ⟨g, 0, none⟩ = some a ∧ w.cell? ⟨g, 1, none⟩ = some b ∧ w.cell? ⟨g, 2, none⟩ = some c ∧ w.cell? ⟨g, 3, none⟩ = some d ∧ w.cell? ⟨g, 4, none⟩ = some e :=
  ⟨by rw [h.cell 0]; rfl, by rw [h.cell 1]; rfl, by rw [h.cell 2]; rfl, by rw [h.cell 3]; rfl, by rw [h.cell 4]; rfl⟩
set_option maxRecDepth 100000 in
set_option maxHeartbeats 1000000 in
theorem walk (w : World) {v : Vv} {A : Option Addr} {c : Nat} {A' : Option Addr} {c' : Nat} (hx : VR w w.heap.size v (vagg v A c A' c')) :
    Calls Tryd.prog 4 #[vagg v A c A' c'] w fun e w' => e = .returned (.bool true) ∧ Below w.heap.size w w' := by
  obtain ⟨wo, hwo⟩ : ∃ x, x = w.alloc (.cells #[.int .i64 v.k, .int .i64 v.n, .string v.s, .slice A v.ns.length c, .slice A' v.ts.length c'] 26) := ⟨_, rfl⟩
  have hb0 : Below w.heap.size w wo := by subst hwo; exact (Below.refl _ _).alloc (Nat.le_refl _) _
  have Bo : Blk wo w.heap.size 26 #[.int .i64 v.k, .int .i64 v.n, .string v.s, .slice A v.ns.length c, .slice A' v.ts.length c'] := by subst hwo; exact Blk.new _ _ _
  have HBO := Lib.hid Bo
  have HB0 := Lib.hid hb0
  have HW := Lib.hid hwo
  have HV : Hid (∀ w', Below w.heap.size w w' → VR w' w.heap.size v (vagg v A c A' c')) := Lib.hid fun w' hb => hx.below hb
  obtain ⟨N, HN⟩ : ∃ N : Int, Hid (N = if chk v = 0 then (need (encB v).length : Int) else 0) := ⟨_, Lib.hid rfl⟩
  have HSP := Lib.hid (speaks16_any wo)
  have HCX : Hid (∀ w', Below w.heap.size w w' → Calls Tryd.prog 10 #[vagg v A c A' c'] w' (NewV v w')) := Lib.hid fun w' hb => refCopy_any v _ w.heap.size w' (hx.below hb) hb.size
  have HRN : Hid (∀ w', Below w.heap.size w w' → Calls Tryd.prog 11 #[vagg v A c A' c'] w' fun e w'' => e = .returned (.int .i64 N) ∧ Below w'.heap.size w' w'') := Lib.hid fun w' hb => by
    have := refNeed_any v _ w.heap.size w' (hx.below hb) hb.size
    rwa [← HN.out] at this
  clear hx hb0 Bo hwo
  unfold vagg at HCX HRN ⊢
  go_enter Tryd.func4, Tryd.ntmps4
  go_wp2_with fail
  rw [← HW.out]
  refine HSP.out.mono ?_
  rintro e w1 ⟨rfl, hb1⟩
  have HB1 : Hid (Below wo.heap.size wo w1) := Lib.hid hb1
  have hbk : Blk w1 w.heap.size 26 #[.int .i64 v.k, .int .i64 v.n, .string v.s, .slice A v.ns.length c, .slice A' v.ts.length c'] := HBO.out.below hb1 HBO.out.lt
  have HK1 := Lib.hid hbk
  have HB01 := Lib.hid (HB0.out.trans (hb1.mono HB0.out.size))
  have x0 : w1.cell? ⟨w.heap.size, 0, none⟩ = some (.int .i64 v.k) := by rw [hbk.cell 0]; rfl
  have x1 : w1.cell? ⟨w.heap.size, 1, none⟩ = some (.int .i64 v.n) := by rw [hbk.cell 1]; rfl
  have x2 : w1.cell? ⟨w.heap.size, 2, none⟩ = some (.string v.s) := by rw [hbk.cell 2]; rfl
  have x3 : w1.cell? ⟨w.heap.size, 3, none⟩ = some (.slice A v.ns.length c) := by rw [hbk.cell 3]; rfl
  have x4 : w1.cell? ⟨w.heap.size, 4, none⟩ = some (.slice A' v.ts.length c') := by rw [hbk.cell 4]; rfl
  clear hb1 hbk HSP
  go_wp2_with fail
  refine wp_region_held_drew (S := (fun w' => w'.cell? ⟨w.heap.size, 0, none⟩ = some (.int .i64 v.k) ∧ w'.cell? ⟨w.heap.size, 1, none⟩ = some (.int .i64 v.n) ∧ w'.cell? ⟨w.heap.size, 2, none⟩ = some (.string v.s) ∧ w'.cell? ⟨w.heap.size, 3, none⟩ = some (.slice A v.ns.length c) ∧ w'.cell? ⟨w.heap.size, 4, none⟩ = some (.slice A' v.ts.length c'))) (by kernel_rfl) (by (try dsimp only); (refine ⟨?_, ?_, ?_, ?_, ?_⟩ <;> assumption)) (fun hHeld => ?_)
  refine wpAnyH_take (i := 0) (v := ?_) rfl (by kernel_rfl) (by kernel_rfl) (by kernel_rfl) (fun _ _ _ h => h) (Or.inl ⟨by rfl, ?_⟩) (by assumption) ?_
  rotate_left
  · (intro w hSw; (try dsimp only at hSw); go_simp; try with_reducible rfl)
  try simp only [Act.put, List.getElem_toArray, List.getElem_cons_zero, List.getElem_cons_succ, List.setIfInBounds_toArray, List.set_cons_zero, List.set_cons_succ]
  refine wpAnyH_take (i := 3) (v := ?_) rfl (by kernel_rfl) (by kernel_rfl) (by kernel_rfl) (fun _ _ _ h => h) (Or.inl ⟨by rfl, ?_⟩) (by assumption) ?_
  rotate_left
  · (intro w hSw; (try dsimp only at hSw); go_simp; try with_reducible rfl)
  try simp only [Act.put, List.getElem_toArray, List.getElem_cons_zero, List.getElem_cons_succ, List.setIfInBounds_toArray, List.set_cons_zero, List.set_cons_succ]
  refine wpAnyH_ready (rs := [1]) (by kernel_rfl) (by simp) ?_
  refine AllReadyH.cons rfl (fun K hK => ?_) AllReadyH.nil
  go_simp
  go_at_call 10
  refine (HCX.out w1.drew (HB01.out.trans (below_drewN (Below.refl _ _) 1))).mono ?_
  rintro e w2 ⟨y, rfl, hy, hb2⟩
  have hb2' : Below w1.heap.size w1 w2 := (below_drewN (Below.refl _ _) 1).trans hb2
  have HY := Lib.hid (Need_any v y w2.heap.size w2 hy (Nat.le_refl _))
  rw [← HN.out] at HY
  have HK2 := Lib.hid (HK1.out.below hb2' HK1.out.lt)
  obtain ⟨y0, y1, y2, y3, y4⟩ := vcells HK2.out
  have HB2 := Lib.hid (HB01.out.trans (hb2'.mono HB01.out.size))
  clear hb2 hb2' hy
  refine hK.out _ _ (by (try dsimp only); (refine ⟨?_, ?_, ?_, ?_, ?_⟩ <;> assumption)) (fun hHeld => ?_)
  clear hK K
  try simp only [Act.put, List.getElem_toArray, List.getElem_cons_zero, List.getElem_cons_succ, List.setIfInBounds_toArray, List.set_cons_zero, List.set_cons_succ]
  refine wpAnyH_ready (rs := [2]) (by kernel_rfl) (by simp) ?_
  refine AllReadyH.cons rfl (fun K hK => ?_) AllReadyH.nil
  go_simp
  go_at_call 9
  refine HY.out.mono ?_
  rintro e w3 ⟨rfl, hb3⟩
  have HK3 := Lib.hid (HK2.out.below hb3 HK2.out.lt)
  obtain ⟨z0, z1, z2, z3, z4⟩ := vcells HK3.out
  have HB3 := Lib.hid (HB2.out.trans (hb3.mono HB2.out.size))
  clear hb3
  refine hK.out _ _ (by (try dsimp only); (refine ⟨?_, ?_, ?_, ?_, ?_⟩ <;> assumption)) (fun hHeld => ?_)
  clear hK K
  try simp only [Act.put, List.getElem_toArray, List.getElem_cons_zero, List.getElem_cons_succ, List.setIfInBounds_toArray, List.set_cons_zero, List.set_cons_succ]
  refine wpAnyH_ready (rs := [4]) (by kernel_rfl) (by simp) ?_
  refine AllReadyH.cons rfl (fun K hK => ?_) AllReadyH.nil
  go_simp
  go_at_call 11
  refine (HRN.out w3 HB3.out).mono ?_
  rintro e w4 ⟨rfl, hb4⟩
  have HK4 := Lib.hid (HK3.out.below hb4 HK3.out.lt)
  obtain ⟨u0, u1, u2, u3, u4⟩ := vcells HK4.out
  have HB4 := Lib.hid (HB3.out.trans (hb4.mono HB3.out.size))
  clear hb4
  refine hK.out _ _ (by (try dsimp only); (refine ⟨?_, ?_, ?_, ?_, ?_⟩ <;> assumption)) (fun hHeld => ?_)
  clear hK K
  try simp only [Act.put, List.getElem_toArray, List.getElem_cons_zero, List.getElem_cons_succ, List.setIfInBounds_toArray, List.set_cons_zero, List.set_cons_succ]
  refine wpAnyH_take (i := 5) (v := ?_) rfl (by kernel_rfl) (by kernel_rfl) (by kernel_rfl) (fun _ _ _ h => h) (Or.inl ⟨by rfl, ?_⟩) (by assumption) ?_
  rotate_left
  · (intro w hSw; (try dsimp only at hSw); go_simp; try with_reducible rfl)
  try simp only [Act.put, List.getElem_toArray, List.getElem_cons_zero, List.getElem_cons_succ, List.setIfInBounds_toArray, List.set_cons_zero, List.set_cons_succ]
  refine wpAnyH_take (i := 6) (v := ?_) rfl (by kernel_rfl) (by kernel_rfl) (by kernel_rfl) (fun _ _ _ h => h) (Or.inl ⟨by rfl, ?_⟩) (by assumption) ?_
  rotate_left
  · (intro w hSw; (try dsimp only at hSw); go_simp; try with_reducible rfl)
  try simp only [Act.put, List.getElem_toArray, List.getElem_cons_zero, List.getElem_cons_succ, List.setIfInBounds_toArray, List.set_cons_zero, List.set_cons_succ]
  refine wpAnyH_done (by kernel_rfl) ?_ _
  go_wp2
  go_ret
  exact ⟨by simp, HB4.out⟩

/-! ### THE ROW's STEP -/
theorem own : ownKnob Tryd.prog.godebug = none := by kernel_rfl
theorem laidOut : laidOutB Tryd.prog = true := by kernel_rfl

set_option maxRecDepth 100000 in
theorem contract (H : Type) (enc : TypeId × Value → H) (W : World) (base : Nat) (args : Array Value) (ds gs : List (DataW H)) (before : List MemPlace)
    (hval0 : ∀ (j : Nat) t v, Tryd.f4.params[j]? = some t → args[j]? = some v → Value.okWide Tryd.prog W .any base t v)
    (hW : DataW.Whole enc Tryd.prog Tryd.f4.params.toList Rows.slotsNeedsSpec.vars false W args.toList ds gs before)
    (hsz : (DataW.weightsEach Tryd.prog (Tryd.f4.params.toList ++ (OpenSpec.ofChange Rows.slotsNeedsSpec).bare.plain.varTypes Tryd.prog) (ds ++ gs)).all (· ≤ reachBytes) = true) (hL : laidMetH Tryd.prog Rows.slotsNeedsRow.laid W) (hSh : W.ShapedOpen Tryd.prog) :
    Calls Tryd.prog 4 args W fun e W' => ∃ v, e = .returned v ∧ Rows.slotsNeedsSpec.post enc Tryd.prog Tryd.f4 false true false false W args v W' := by
  have hval : ∀ (j : Nat) t v, Tryd.f4.params[j]? = some t → args[j]? = some v → Value.okWide Tryd.prog W .any base t v := hval0
  have hW' := hW
  obtain ⟨p, q, hA0, hV, rfl, hfz, hnd⟩ := hW
  have hA : DataW.TrodAll enc Tryd.prog W 0 (fun _ => true) true Tryd.f4.params.toList args.toList ds p := hA0
  rw [Tryd.params4] at hA hval
  obtain ⟨v0, vs0, d0, ds0, p0, q0, hargs, rfl, rfl, h0, r0⟩ := trodAll_cons hA
  obtain ⟨rfl, rfl, rfl⟩ := trodAll_nil r0
  obtain rfl : args = #[v0] := by cases args; simp_all
  obtain ⟨rfl, rfl⟩ := trodVars_none hV
  have k0 := h0
  have lt0 : ∀ x ∈ p0, x.block < W.heap.size := by obtain ⟨m, hm⟩ := k0; exact DataW.trod_lt m _ _ _ hm
  have w0 := reach_at hsz (j := 0) rfl rfl
  clear hA0 hval0 hsz
  obtain ⟨val0, A0, c0, B0, d0, rfl, hx0⟩ := open_value (hval 0 _ v0 rfl rfl) w0 h0 lt0
  refine (walk W hx0).mono fun e W' ⟨he, bel⟩ => ?_
  subst he
  exact ⟨_, rfl, _, _, _, [], _, [], hW', trodAll_mk1 (shut_bool Tryd.underlying4 _), (trodAll_cons_mk (Below.trod laidOut (by kernel_rfl) (of_decide_eq_true (by kernel_rfl)) k0 bel lt0) trodAll_mk0), rfl, bel.frame _, fun h => by cases h⟩

theorem laid_met (os : Os) : laidMet Tryd.prog Rows.slotsNeedsRow.laid ((laidWorld os).forCall (fun _ _ => 0) ⟨#[], #[.agg #[.int .i64 0, .int .i64 0, .string ⟨#[]⟩, .slice none 0 0, .slice none 0 0]], []⟩).memory :=
  laid_met0 os
theorem reads (os : Os) {H : Type} (enc : TypeId × Value → H) : ∃ places, DataW.whole enc Tryd.prog ((laidWorld os).forCall (fun _ _ => 0) ⟨#[], #[.agg #[.int .i64 0, .int .i64 0, .string ⟨#[]⟩, .slice none 0 0, .slice none 0 0]], []⟩).memory Tryd.f4.params.toList Rows.slotsNeedsSpec.vars false (#[.agg #[.int .i64 0, .int .i64 0, .string ⟨#[]⟩, .slice none 0 0, .slice none 0 0]] : Array Value).toList 8 = some ([.agg [.lit (.int .i64 0), .lit (.int .i64 0), .lit (.string []), .nil, .nil]], [], places) :=
  ⟨[], by kernel_rfl⟩

set_option maxRecDepth 100000 in
theorem lifted (os : Os) (started : os.Started) (H : Type) (enc : TypeId × Value → H) (F : Stop.Interp) :
    ReturnsInHanded {} Tryd.checked os 4 .any ((OpenSpec.ofChange Rows.slotsNeedsSpec).preRow enc Tryd.prog Tryd.f4 Rows.slotsNeedsRow.domain false Rows.slotsNeedsRow.laid) (((OpenSpec.ofChange Rows.slotsNeedsSpec).at F).post enc Tryd.prog Tryd.f4 false true false false) := by
  obtain ⟨places, hx⟩ := reads os enc
  refine returnsInHanded_of_row (C := Tryd.checked) (s := (OpenSpec.ofChange Rows.slotsNeedsSpec)) own started (by kernel_rfl) Tryd.func4
    (witness_row_at (enc := enc) (C := Tryd.checked) false (laidWorld os) #[.agg #[.int .i64 0, .int .i64 0, .string ⟨#[]⟩, .slice none 0 0, .slice none 0 0]] rfl (by kernel_rfl) (by kernel_rfl) (by kernel_rfl)
      (OpenSpec.preRow_of_cond 8 hx (by kernel_rfl) (fun k hk => by cases hk) (by kernel_rfl) (laid_met os))) ?_
  intro W base args ds gs before hval hW _ hcond hsz hL hSh _
  exact contract H enc W base args ds gs before hval hW hsz hL hSh

theorem said : Rows.SlotsNeedsSaid :=
  OpenClaim.holds_of_cond 4 Tryd.f4 rfl rfl rfl rfl rfl rfl rfl ⟨rfl, rfl, rfl, rfl, rfl⟩ rfl rfl rfl rfl rfl (by kernel_rfl) Tryd.func4 (by kernel_rfl)
    (of_decide_eq_true (by kernel_rfl)) (by unfold Func.isWrapper; rw [if_neg (of_decide_eq_false (by kernel_rfl))]; exact ⟨rfl, rfl⟩)
    (fun os started H enc _ F => by rw [OpenClaim.pre_eq_preRow]; exact lifted os started H enc F)

theorem noStandIn : ∀ t ∈ ([26] : List TypeId), Tryd.prog.wantsStandIn t = false := by
  intro t ht
  simp only [List.mem_cons, List.not_mem_nil, or_false] at ht
  rcases ht with rfl
  · exact (show Tryd.prog.wantsStandIn 26 = false by kernel_rfl)
theorem plain (f : FuncId) (fn : Func) (hf : Tryd.pinned.checked.prog.funcNamed "satchel/satchellaw16.SlotsNeeds" = some f) (hfn : Tryd.pinned.checked.prog.funcs[f]? = some fn) :
    false = Tryd.pinned.checked.prog.looks [] ∧ ∀ (j : Nat) t, fn.params[j]? = some t → Tryd.pinned.checked.prog.wantsStandIn t = false := by
  obtain rfl : f = 4 := Option.some.inj ((show Tryd.prog.funcNamed "satchel/satchellaw16.SlotsNeeds" = some 4 by kernel_rfl).symm.trans hf) |>.symm
  obtain rfl : fn = Tryd.f4 := (Option.some.inj (Tryd.func4.symm.trans hfn)).symm
  refine ⟨by kernel_rfl, fun j t ht => ?_⟩
  rw [Tryd.params4] at ht
  exact noStandIn t (by simpa using Array.mem_of_getElem? ht)

/-- THE CARD -/
theorem proved : Rows.SlotsNeedsCardSaid :=
  Claim7.holds_tied_plain_at .later [] _ _ _ _ said (fun _ h => by cases h) (by kernel_rfl) (fun _ h => by cases h) slotsNeeds_row_tie rfl ⟨rfl, rfl⟩ (by kernel_rfl) rfl plain (by kernel_rfl)
end Go.Proofs.YtgpahglmhnnobaaDoor.slotsNeeds
