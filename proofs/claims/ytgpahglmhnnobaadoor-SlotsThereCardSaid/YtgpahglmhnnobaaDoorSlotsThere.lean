/- What is packed is unpacked again. utf8's tables stand as the program's text lays them (the card ties them; no walk reads them). -/
import Derived.Test.YtgpahglmhnnobaaDoorOpen
import Derived.Test.YtgpahglmhnnobaaDoorCards
import Derived.Test.YtgpahglmhnnobaaDoorTie
import Derived.Deep.DeepHandedRow
import Derived.Lib.LaidTab
import Derived.Test.YtgpahglmhnnobaaDoorSlSpeak
import Derived.Test.YtgpahglmhnnobaaDoorSlLaid
import Derived.Test.YtgpahglmhnnobaaDoorSlOpen
namespace Go.Proofs.YtgpahglmhnnobaaDoor.slotsThere
open Go.ChangeShapes Go.WideShapes Go.ChangeAt Go.RowKit
open Go.ChangeMaps (open_string shut_string)
set_option linter.unusedVariables false
set_option linter.unusedSimpArgs false

theorem packO_len {L : List Kv} {room : Int} (h : packE L room = 0) : (packO L room).length ≤ 646496 := by
  obtain ⟨_, _, f3, f4, _⟩ := pack_facts h
  have hok := (run_ok L _ _ 0 (PkOk.start room.toNat) f4).ov
  unfold packO
  rw [if_pos h]
  omega
set_option maxRecDepth 100000 in
set_option maxHeartbeats 1000000 in
theorem walk (w : World) {A : Option Addr} {L : List Kv} {c : Nat} (hx : KvsR w w.heap.size A L ∧ L.length * 88 ≤ 140737488351232) {room : Int} (hroom : -9223372036854775808 ≤ room ∧ room ≤ 9223372036854775807) :
    Calls Tryd.prog 5 #[.slice A L.length c, .int .i64 room] w fun e w' => e = .returned (.bool true) ∧ Below w.heap.size w w' := by
  obtain ⟨hr, hl⟩ := hx
  clear hroom
  have HR : Hid (∀ w', Below w.heap.size w w' → KvsR w' w.heap.size A L) := Lib.hid fun w' hb => hr.below hb
  have hvk : ∀ x ∈ L, Vok x.v := fun x hx => by
    obtain ⟨k, hk⟩ := List.mem_iff_getElem?.1 hx
    obtain ⟨b, off, _, _, A1, c1, A2, c2, _, _, _, hv, _⟩ := hr k x hk
    exact hv
  have HVK := Lib.hid hvk
  have HL := Lib.hid hl
  have HCP : Hid (∀ w', Below w.heap.size w w' → Calls Tryd.prog 13 #[.slice A L.length c] w' (NewKvs L w')) := Lib.hid fun w' hb => refCopyKv_any A c w.heap.size L w' (HR.out w' hb) hb.size hl
  obtain ⟨n, HN⟩ : ∃ n, Hid (n = L.length) := ⟨_, Lib.hid rfl⟩
  obtain ⟨E, HE⟩ : ∃ E, Hid (E = packE L room) := ⟨_, Lib.hid rfl⟩
  rw [← HN.out] at HCP hl ⊢
  clear hr hvk
  go_enter Tryd.func5, Tryd.ntmps5
  go_wp2_with fail
  refine (speaks16_any w).mono ?_
  rintro e w1 ⟨rfl, hb1⟩
  have HC1 := Lib.hid (HCP.out w1 hb1)
  have HB1 := Lib.hid hb1
  clear hb1
  go_wp2_with fail
  unfold NewKvs at HC1
  refine HC1.out.mono ?_
  rintro e w2 ⟨v, F, rfl, hF, hF2, hb2⟩
  have h2 : St Zf [KvsA v L] w1 w2 := (St.start Zf w1).add hb2 hF fun k hk => hF2 k hk
  obtain ⟨A2, c2, rfl, hr2⟩ := hF.reads
  have hpk := Pack_any A2 c2 w2.heap.size L room w2 hr2 (Nat.le_refl _) (by rw [← HN.out]; omega)
  unfold PackW at hpk
  obtain ⟨PS, HPS⟩ : ∃ PS, Hid (PS = packS L room) := ⟨_, Lib.hid rfl⟩
  obtain ⟨PO, HPO⟩ : ∃ PO, Hid (PO = packO L room) := ⟨_, Lib.hid rfl⟩
  rw [← HE.out, ← HN.out, ← HPS.out, ← HPO.out] at hpk
  rw [← HN.out]
  have HPK := Lib.hid hpk
  have HB2 := Lib.hid (HB1.out.trans (hb2.mono HB1.out.size))
  clear hF hF2 hb2 h2 hr2 hpk HC1
  go_wp2_with fail
  refine HPK.out.mono ?_
  rintro e w3 ⟨v3, v4, rfl, h3⟩
  obtain ⟨A3, c3, rfl, -, -, -, -⟩ := h3.ob.form
  obtain ⟨A4, c4, rfl, -, -, -, -⟩ := h3.drop.ob.form
  obtain ⟨-, a1, a2, a3⟩ := h3.obR
  obtain ⟨-, b1, b2, b3⟩ := h3.drop.obR
  have HB3 := Lib.hid (HB2.out.trans (h3.bel.mono HB2.out.size))
  by_cases h0 : E = 0
  · have hpe : packE L room = 0 := by rw [← HE.out]; exact h0
    subst h0
    obtain ⟨f1, f2, f3, f4, f5⟩ := pack_facts hpe
    obtain ⟨R, hR⟩ : ∃ R : Nat, room = (R : Int) := ⟨room.toNat, by omega⟩
    have hpl : PS.length = 8 * R := by rw [HPS.out, f5, hR]; rfl
    have hun := Unpack_any (cs := c3) (co := c4) w3 a3 b3 (Nat.le_refl _) a1 a2 (by rw [HPO.out]; exact Nat.le_trans (packO_len hpe) (by decide))
    rw [show unpR PS PO = (0, L) by rw [HPS.out, HPO.out]; exact unp_there hpe HVK.out, hpl] at hun
    unfold UnpW at hun
    rw [hpl]
    have HUN := Lib.hid hun
    have hb8 : (((8 * R : Nat) : Int) == 8 * (R : Int)) = true := by simp
    have hR16 : R ≤ 16 := by omega
    subst hR
    clear h3 a1 a2 a3 b1 b2 b3 hpe f1 f2 f3 f4 f5 hpl hun
    go_wp2_with fail
    refine HUN.out.mono ?_
    rintro e w4 ⟨v5, X, rfl, h4, hX, hok⟩
    obtain ⟨A5, c5, rfl⟩ := kx_form h4
    obtain ⟨-, hq⟩ := h4.kxR hok
    rw [show X.map (·.1) = L from hX] at hq
    have hXl : X.length = n := by rw [HN.out]; have := congrArg List.length hX; simpa using this
    have hb4 := HB3.out.trans (h4.bel.mono HB3.out.size)
    have hsm := refSameKv_yes A5 A c5 c w4.heap.size L w4 hq ((HR.out w4 hb4).more hb4.size) (Nat.le_refl _) (by have := HL.out; omega)
    rw [← HN.out] at hsm
    rw [hXl]
    have HSM := Lib.hid hsm
    have HB4 := Lib.hid hb4
    clear h4 hX hok hq hXl hb4 hsm HUN
    go_wp2_with fail
    refine HSM.out.mono ?_
    rintro e w5 ⟨rfl, hb5⟩
    have HB5 := Lib.hid (HB4.out.trans (hb5.mono HB4.out.size))
    clear hb5 HSM
    go_wp2
    go_ret
    exact ⟨rfl, HB5.out⟩
  · have hbe : (E != 0) = true := by simpa using h0
    obtain ⟨g1, g2⟩ := pack_no (L := L) (room := room) (by rw [← HE.out]; exact h0)
    rw [← HPS.out] at g1
    rw [← HPO.out] at g2
    subst g1 g2
    clear h3 a1 a2 a3 b1 b2 b3 h0
    go_wp2
    go_ret
    exact ⟨rfl, HB3.out⟩

/-! ### THE ROW's STEP -/
theorem own : ownKnob Tryd.prog.godebug = none := by kernel_rfl
theorem laidOut : laidOutB Tryd.prog = true := by kernel_rfl

set_option maxRecDepth 100000 in
theorem contract (H : Type) (enc : TypeId × Value → H) (W : World) (base : Nat) (args : Array Value) (ds gs : List (DataW H)) (before : List MemPlace)
    (hval0 : ∀ (j : Nat) t v, Tryd.f5.params[j]? = some t → args[j]? = some v → Value.okWide Tryd.prog W .any base t v)
    (hW : DataW.Whole enc Tryd.prog Tryd.f5.params.toList Rows.slotsThereSpec.vars false W args.toList ds gs before)
    (hsz : (DataW.weightsEach Tryd.prog (Tryd.f5.params.toList ++ (OpenSpec.ofChange Rows.slotsThereSpec).bare.plain.varTypes Tryd.prog) (ds ++ gs)).all (· ≤ reachBytes) = true) (hL : laidMetH Tryd.prog Rows.slotsThereRow.laid W) (hSh : W.ShapedOpen Tryd.prog) :
    Calls Tryd.prog 5 args W fun e W' => ∃ v, e = .returned v ∧ Rows.slotsThereSpec.post enc Tryd.prog Tryd.f5 false true false false W args v W' := by
  have hval : ∀ (j : Nat) t v, Tryd.f5.params[j]? = some t → args[j]? = some v → Value.okWide Tryd.prog W .any base t v := hval0
  have hW' := hW
  obtain ⟨p, q, hA0, hV, rfl, hfz, hnd⟩ := hW
  have hA : DataW.TrodAll enc Tryd.prog W 0 (fun _ => true) true Tryd.f5.params.toList args.toList ds p := hA0
  rw [Tryd.params5] at hA hval
  obtain ⟨v0, vs0, d0, ds0, p0, q0, hargs, rfl, rfl, h0, r0⟩ := trodAll_cons hA
  obtain ⟨v1, vs1, d1, ds1, p1, q1, rfl, rfl, rfl, h1, r1⟩ := trodAll_cons r0
  obtain ⟨rfl, rfl, rfl⟩ := trodAll_nil r1
  obtain rfl : args = #[v0, v1] := by cases args; simp_all
  obtain ⟨rfl, rfl⟩ := trodVars_none hV
  have k0 := h0
  have lt0 : ∀ x ∈ p0, x.block < W.heap.size := by obtain ⟨m, hm⟩ := k0; exact DataW.trod_lt m _ _ _ hm
  have w0 := reach_at hsz (j := 0) rfl rfl
  have k1 := h1
  have lt1 : ∀ x ∈ p1, x.block < W.heap.size := by obtain ⟨m, hm⟩ := k1; exact DataW.trod_lt m _ _ _ hm
  have w1 := reach_at hsz (j := 1) rfl rfl
  clear hA0 hval0 hsz
  obtain ⟨A0, L0, c0, rfl, hx0⟩ := open_kvs (hval 0 _ v0 rfl rfl) w0 h0 lt0
  obtain ⟨a1, rfl, rfl, rfl, wf1⟩ := open_int Tryd.underlying3 (hval 1 3 v1 rfl rfl) h1
  refine (walk W hx0 (bounds_i64 wf1)).mono fun e W' ⟨he, bel⟩ => ?_
  subst he
  exact ⟨_, rfl, _, _, _, [], _, [], hW', trodAll_mk1 (shut_bool Tryd.underlying4 _), (trodAll_cons_mk (Below.trod laidOut (by kernel_rfl) (of_decide_eq_true (by kernel_rfl)) k0 bel lt0) (trodAll_cons_mk (Below.trod laidOut (by kernel_rfl) (of_decide_eq_true (by kernel_rfl)) k1 bel lt1) trodAll_mk0)), rfl, bel.frame _, fun h => by cases h⟩

theorem laid_met (os : Os) : laidMet Tryd.prog Rows.slotsThereRow.laid ((laidWorld os).forCall (fun _ _ => 0) ⟨#[], #[.slice none 0 0, .int .i64 0], []⟩).memory :=
  laid_met0 os
theorem reads (os : Os) {H : Type} (enc : TypeId × Value → H) : ∃ places, DataW.whole enc Tryd.prog ((laidWorld os).forCall (fun _ _ => 0) ⟨#[], #[.slice none 0 0, .int .i64 0], []⟩).memory Tryd.f5.params.toList Rows.slotsThereSpec.vars false (#[.slice none 0 0, .int .i64 0] : Array Value).toList 8 = some ([.nil, .lit (.int .i64 0)], [], places) :=
  ⟨[], by kernel_rfl⟩

set_option maxRecDepth 100000 in
theorem lifted (os : Os) (started : os.Started) (H : Type) (enc : TypeId × Value → H) (F : Stop.Interp) :
    ReturnsInHanded {} Tryd.checked os 5 .any ((OpenSpec.ofChange Rows.slotsThereSpec).preRow enc Tryd.prog Tryd.f5 Rows.slotsThereRow.domain false Rows.slotsThereRow.laid) (((OpenSpec.ofChange Rows.slotsThereSpec).at F).post enc Tryd.prog Tryd.f5 false true false false) := by
  obtain ⟨places, hx⟩ := reads os enc
  refine returnsInHanded_of_row (C := Tryd.checked) (s := (OpenSpec.ofChange Rows.slotsThereSpec)) own started (by kernel_rfl) Tryd.func5
    (witness_row_at (enc := enc) (C := Tryd.checked) false (laidWorld os) #[.slice none 0 0, .int .i64 0] rfl (by kernel_rfl) (by kernel_rfl) (by kernel_rfl)
      (OpenSpec.preRow_of_cond 8 hx (by kernel_rfl) (fun k hk => by cases hk) (by kernel_rfl) (laid_met os))) ?_
  intro W base args ds gs before hval hW _ hcond hsz hL hSh _
  exact contract H enc W base args ds gs before hval hW hsz hL hSh

theorem said : Rows.SlotsThereSaid :=
  OpenClaim.holds_of_cond 5 Tryd.f5 rfl rfl rfl rfl rfl rfl rfl ⟨rfl, rfl, rfl, rfl, rfl⟩ rfl rfl rfl rfl rfl (by kernel_rfl) Tryd.func5 (by kernel_rfl)
    (of_decide_eq_true (by kernel_rfl)) (by unfold Func.isWrapper; rw [if_neg (of_decide_eq_false (by kernel_rfl))]; exact ⟨rfl, rfl⟩)
    (fun os started H enc _ F => by rw [OpenClaim.pre_eq_preRow]; exact lifted os started H enc F)

theorem noStandIn : ∀ t ∈ ([30, 3] : List TypeId), Tryd.prog.wantsStandIn t = false := by
  intro t ht
  simp only [List.mem_cons, List.not_mem_nil, or_false] at ht
  rcases ht with rfl | rfl
  · exact (show Tryd.prog.wantsStandIn 30 = false by kernel_rfl)
  · exact (show Tryd.prog.wantsStandIn 3 = false by kernel_rfl)
theorem plain (f : FuncId) (fn : Func) (hf : Tryd.pinned.checked.prog.funcNamed "satchel/satchellaw16.SlotsThere" = some f) (hfn : Tryd.pinned.checked.prog.funcs[f]? = some fn) :
    false = Tryd.pinned.checked.prog.looks [] ∧ ∀ (j : Nat) t, fn.params[j]? = some t → Tryd.pinned.checked.prog.wantsStandIn t = false := by
  obtain rfl : f = 5 := Option.some.inj ((show Tryd.prog.funcNamed "satchel/satchellaw16.SlotsThere" = some 5 by kernel_rfl).symm.trans hf) |>.symm
  obtain rfl : fn = Tryd.f5 := (Option.some.inj (Tryd.func5.symm.trans hfn)).symm
  refine ⟨by kernel_rfl, fun j t ht => ?_⟩
  rw [Tryd.params5] at ht
  exact noStandIn t (by simpa using Array.mem_of_getElem? ht)

/-- THE CARD -/
theorem proved : Rows.SlotsThereCardSaid :=
  Claim7.holds_tied_plain_at .later [] _ _ _ _ said (fun _ h => by cases h) (by kernel_rfl) (fun _ h => by cases h) slotsThere_row_tie rfl ⟨rfl, rfl⟩ (by kernel_rfl) rfl plain (by kernel_rfl)
end Go.Proofs.YtgpahglmhnnobaaDoor.slotsThere
