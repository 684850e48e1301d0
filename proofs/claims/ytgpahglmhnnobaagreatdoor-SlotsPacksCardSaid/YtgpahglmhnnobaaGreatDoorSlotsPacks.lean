/- Any properties are packed into any room, or refused, exactly as the document says; they stay. utf8's tables stand as the program's text lays them (the card ties them; no walk reads them). -/
import Derived.Test.YtgpahglmhnnobaaGreatDoorOpen
import Derived.Test.YtgpahglmhnnobaaGreatDoorCards
import Derived.Test.YtgpahglmhnnobaaGreatDoorTie
import Derived.Deep.DeepHandedRow
import Derived.Lib.LaidTab
import Derived.Test.YtgpahglmhnnobaaGreatDoorSlSpeak
import Derived.Test.YtgpahglmhnnobaaGreatDoorSlEnds
import Derived.Test.YtgpahglmhnnobaaGreatDoorSlRefPk
namespace Go.Proofs.YtgpahglmhnnobaaGreatDoor.slotsPacks
open Go.ChangeShapes Go.WideShapes Go.ChangeAt Go.RowKit
open Go.ChangeMaps (open_string shut_string)
set_option linter.unusedVariables false
set_option linter.unusedSimpArgs false

theorem pack_len (L : List Kv) (room : Int) : (packS L room).length ≤ 1000000 ∧ (packO L room).length ≤ 1000000 := by
  by_cases h : packE L room = 0
  · obtain ⟨f1, f2, f3, f4, f5⟩ := pack_facts h
    have hok := (run_ok L _ _ 0 (PkOk.start room.toNat) f4).ov
    refine ⟨by rw [f5]; omega, ?_⟩
    unfold packO
    rw [if_pos h]
    omega
  · rw [(pack_no h).1, (pack_no h).2]
    exact ⟨by simp, by simp⟩
set_option maxRecDepth 100000 in
set_option maxHeartbeats 2000000 in
theorem walk (w : World) {A : Option Addr} {L : List Kv} {c : Nat} (hx : KvsR w w.heap.size A L ∧ L.length * 88 ≤ 140737488351232) {room : Int} (hroom : -9223372036854775808 ≤ room ∧ room ≤ 9223372036854775807) :
    Calls Tryz.prog 3 #[.slice A L.length c, .int .i64 room] w fun e w' => e = .returned (.bool true) ∧ Below w.heap.size w w' := by
  obtain ⟨hr, hl⟩ := hx
  clear hroom
  have HR : Hid (∀ w', Below w.heap.size w w' → KvsR w' w.heap.size A L) := Lib.hid fun w' hb => hr.below hb
  have HL := Lib.hid hl
  have HCP : Hid (∀ w', Below w.heap.size w w' → Calls Tryz.prog 7 #[.slice A L.length c] w' (NewKvs L w')) := Lib.hid fun w' hb => refCopyKv_any A c w.heap.size L w' (HR.out w' hb) hb.size hl
  obtain ⟨n, HN⟩ : ∃ n, Hid (n = L.length) := ⟨_, Lib.hid rfl⟩
  obtain ⟨E, HE⟩ : ∃ E, Hid (E = packE L room) := ⟨_, Lib.hid rfl⟩
  obtain ⟨PS, HPS⟩ : ∃ PS, Hid (PS = packS L room) := ⟨_, Lib.hid rfl⟩
  obtain ⟨PO, HPO⟩ : ∃ PO, Hid (PO = packO L room) := ⟨_, Lib.hid rfl⟩
  have HLEN : Hid (PS.length ≤ 1000000 ∧ PO.length ≤ 1000000) := Lib.hid (by rw [HPS.out, HPO.out]; exact pack_len L room)
  have HRP : Hid (∀ w', Below w.heap.size w w' → Calls Tryz.prog 9 #[.slice A n c, .int .i64 room] w' fun e w'' => ∃ v v', e = .returned (.tuple #[v, v', .int .i64 E]) ∧ St Zf [ObA 5 v PS, ObA 5 v' PO] w' w'') := Lib.hid fun w' hb => by
    have h := refPack_any A c w.heap.size L room w' (HR.out w' hb) hb.size (by omega)
    unfold PackW at h
    rw [← HN.out, ← HE.out, ← HPS.out, ← HPO.out] at h
    exact h
  rw [← HN.out] at HCP hl ⊢
  clear hr
  go_enter Tryz.func3, Tryz.ntmps3
  go_wp2_with fail
  refine (speaks16_any w).mono ?_
  rintro e w1 ⟨rfl, hb1⟩
  have HC1 := Lib.hid (HCP.out w1 hb1)
  have HB1 := Lib.hid hb1
  clear hb1
  go_wp2_with fail
  unfold NewKvs at HC1
  refine HC1.out.mono ?_
  rintro e w2 ⟨v, F, rfl, hF, hF2, hb2⟩
  have h2 : St Zf [KvsA v L] w1 w2 := (St.start Zf w1).add hb2 hF fun k hk => hF2 k hk
  obtain ⟨A2, c2, rfl, hr2⟩ := hF.reads
  have hpk := Pack_any A2 c2 w2.heap.size L room w2 hr2 (Nat.le_refl _) (by rw [← HN.out]; omega)
  unfold PackW at hpk
  rw [← HE.out, ← HN.out, ← HPS.out, ← HPO.out] at hpk
  rw [← HN.out]
  have HPK := Lib.hid hpk
  have HB2 := Lib.hid (HB1.out.trans (hb2.mono HB1.out.size))
  have HI : Hid (∀ w', Below w2.heap.size w2 w' → KvsR w' w2.heap.size A2 L) := Lib.hid fun w' hb => hr2.below hb
  clear hF hF2 hb2 h2 hr2 hpk HC1
  go_wp2_with fail
  refine HPK.out.mono ?_
  rintro e w3 ⟨v3, v4, rfl, h3⟩
  obtain ⟨A3, c3, rfl, -, -, -, -⟩ := h3.ob.form
  obtain ⟨A4, c4, rfl, -, -, -, -⟩ := h3.drop.ob.form
  obtain ⟨-, -, -, a3⟩ := h3.obR
  obtain ⟨-, -, -, b3⟩ := h3.drop.obR
  have HB3 := Lib.hid (HB2.out.trans (h3.bel.mono HB2.out.size))
  have HBI3 := Lib.hid h3.bel
  have HA3 : Hid (∀ w', Below w3.heap.size w3 w' → RB w' w3.heap.size A3 PS ∧ RB w' w3.heap.size A4 PO) := Lib.hid fun w' hb => ⟨a3.below hb, b3.below hb⟩
  have HRP3 := Lib.hid (HRP.out w3 HB3.out)
  obtain ⟨ls, HLS⟩ : ∃ ls, Hid (ls = PS.length) := ⟨_, Lib.hid rfl⟩
  obtain ⟨lo, HLO⟩ : ∃ lo, Hid (lo = PO.length) := ⟨_, Lib.hid rfl⟩
  rw [← HLS.out, ← HLO.out]
  clear h3 a3 b3 HPK
  go_wp2_with fail
  refine HRP3.out.mono ?_
  rintro e w4 ⟨v5, v6, rfl, h4⟩
  obtain ⟨A5, c5, rfl, -, -, -, -⟩ := h4.ob.form
  obtain ⟨A6, c6, rfl, -, -, -, -⟩ := h4.drop.ob.form
  have HB4 := Lib.hid (HB3.out.trans (h4.bel.mono HB3.out.size))
  have HBI4 := Lib.hid (HBI3.out.trans (h4.bel.mono HBI3.out.size))
  have HS1 := Lib.hid (same_yes A3 A5 ls c3 c5 _ _ PS w4 (HA3.out w4 h4.bel).1 h4.obR.2.2.2 HLS.out.symm (by rw [HLS.out]; exact Nat.le_trans HLEN.out.1 (by decide)))
  have HS2 : Hid (∀ k, Calls Tryz.prog 10 #[.slice A4 lo c4, .slice A6 lo c6] (w4.drewN k) (SameB true (w4.drewN k))) := Lib.hid fun k => same_yes A4 A6 lo c4 c6 _ _ PO (w4.drewN k) ((HA3.out w4 h4.bel).2.drewN k) (h4.drop.drewN k).obR.2.2.2 HLO.out.symm (by rw [HLO.out]; exact Nat.le_trans HLEN.out.2 (by decide))
  have hee : (E == E) = true := by simp
  rw [← HLS.out, ← HLO.out]
  clear h4 HRP3
  go_wp2_with fail
  refine HS1.out.mono ?_
  rintro e w6 ⟨rfl, k6, hw6⟩
  have HS3 := Lib.hid (HS2.out k6)
  rw [← hw6] at HS3
  have HB6 : Hid (Below w.heap.size w w6) := Lib.hid (by rw [hw6]; exact below_drewN HB4.out _)
  have HBI6 : Hid (Below w2.heap.size w2 w6) := Lib.hid (by rw [hw6]; exact below_drewN HBI4.out _)
  clear hw6 HS2 HS1
  go_wp2_with fail
  refine HS3.out.mono ?_
  rintro e w7 ⟨rfl, k7, hw7⟩
  have HB7 : Hid (Below w.heap.size w w7) := Lib.hid (by rw [hw7]; exact below_drewN HB6.out _)
  have HBI7 : Hid (Below w2.heap.size w2 w7) := Lib.hid (by rw [hw7]; exact below_drewN HBI6.out _)
  have hsm := refSameKv_yes A2 A c2 c w7.heap.size L w7 ((HI.out w7 HBI7.out).more HBI7.out.size) ((HR.out w7 HB7.out).more HB7.out.size) (Nat.le_refl _) (by have := HL.out; omega)
  rw [← HN.out] at hsm
  have HSM := Lib.hid hsm
  clear hw7 HS3 hsm
  go_wp2_with fail
  refine HSM.out.mono ?_
  rintro e w8 ⟨rfl, hb8⟩
  have HB8 := Lib.hid (HB7.out.trans (hb8.mono HB7.out.size))
  clear hb8 HSM
  go_wp2
  go_ret
  exact ⟨rfl, HB8.out⟩

/-! ### THE ROW's STEP -/
theorem own : ownKnob Tryz.prog.godebug = none := by kernel_rfl
theorem laidOut : laidOutB Tryz.prog = true := by kernel_rfl

set_option maxRecDepth 100000 in
theorem contract (H : Type) (enc : TypeId × Value → H) (W : World) (base : Nat) (args : Array Value) (ds gs : List (DataW H)) (before : List MemPlace)
    (hval0 : ∀ (j : Nat) t v, Tryz.f3.params[j]? = some t → args[j]? = some v → Value.okWide Tryz.prog W .any base t v)
    (hW : DataW.Whole enc Tryz.prog Tryz.f3.params.toList Rows.slotsPacksSpec.vars false W args.toList ds gs before)
    (hsz : (DataW.weightsEach Tryz.prog (Tryz.f3.params.toList ++ (OpenSpec.ofChange Rows.slotsPacksSpec).bare.plain.varTypes Tryz.prog) (ds ++ gs)).all (· ≤ reachBytes) = true) (hL : laidMetH Tryz.prog Rows.slotsPacksRow.laid W) (hSh : W.ShapedOpen Tryz.prog) :
    Calls Tryz.prog 3 args W fun e W' => ∃ v, e = .returned v ∧ Rows.slotsPacksSpec.post enc Tryz.prog Tryz.f3 false true false false W args v W' := by
  have hval : ∀ (j : Nat) t v, Tryz.f3.params[j]? = some t → args[j]? = some v → Value.okWide Tryz.prog W .any base t v := hval0
  have hW' := hW
  obtain ⟨p, q, hA0, hV, rfl, hfz, hnd⟩ := hW
  have hA : DataW.TrodAll enc Tryz.prog W 0 (fun _ => true) true Tryz.f3.params.toList args.toList ds p := hA0
  rw [Tryz.params3] at hA hval
  obtain ⟨v0, vs0, d0, ds0, p0, q0, hargs, rfl, rfl, h0, r0⟩ := trodAll_cons hA
  obtain ⟨v1, vs1, d1, ds1, p1, q1, rfl, rfl, rfl, h1, r1⟩ := trodAll_cons r0
  obtain ⟨rfl, rfl, rfl⟩ := trodAll_nil r1
  obtain rfl : args = #[v0, v1] := by cases args; simp_all
  obtain ⟨rfl, rfl⟩ := trodVars_none hV
  have k0 := h0
  have lt0 : ∀ x ∈ p0, x.block < W.heap.size := by obtain ⟨m, hm⟩ := k0; exact DataW.trod_lt m _ _ _ hm
  have w0 := reach_at hsz (j := 0) rfl rfl
  have k1 := h1
  have lt1 : ∀ x ∈ p1, x.block < W.heap.size := by obtain ⟨m, hm⟩ := k1; exact DataW.trod_lt m _ _ _ hm
  have w1 := reach_at hsz (j := 1) rfl rfl
  clear hA0 hval0 hsz
  obtain ⟨A0, L0, c0, rfl, hx0⟩ := open_kvs (hval 0 _ v0 rfl rfl) w0 h0 lt0
  obtain ⟨a1, rfl, rfl, rfl, wf1⟩ := open_int Tryz.underlying3 (hval 1 3 v1 rfl rfl) h1
  refine (walk W hx0 (bounds_i64 wf1)).mono fun e W' ⟨he, bel⟩ => ?_
  subst he
  exact ⟨_, rfl, _, _, _, [], _, [], hW', trodAll_mk1 (shut_bool Tryz.underlying4 _), (trodAll_cons_mk (Below.trod laidOut (by kernel_rfl) (of_decide_eq_true (by kernel_rfl)) k0 bel lt0) (trodAll_cons_mk (Below.trod laidOut (by kernel_rfl) (of_decide_eq_true (by kernel_rfl)) k1 bel lt1) trodAll_mk0)), rfl, bel.frame _, fun h => by cases h⟩

theorem laid_met (os : Os) : laidMet Tryz.prog Rows.slotsPacksRow.laid ((laidWorld os).forCall (fun _ _ => 0) ⟨#[], #[.slice none 0 0, .int .i64 0], []⟩).memory :=
  laid_met0 os
theorem reads (os : Os) {H : Type} (enc : TypeId × Value → H) : ∃ places, DataW.whole enc Tryz.prog ((laidWorld os).forCall (fun _ _ => 0) ⟨#[], #[.slice none 0 0, .int .i64 0], []⟩).memory Tryz.f3.params.toList Rows.slotsPacksSpec.vars false (#[.slice none 0 0, .int .i64 0] : Array Value).toList 8 = some ([.nil, .lit (.int .i64 0)], [], places) :=
  ⟨[], by kernel_rfl⟩

set_option maxRecDepth 100000 in
theorem lifted (os : Os) (started : os.Started) (H : Type) (enc : TypeId × Value → H) (F : Stop.Interp) :
    ReturnsInHanded {} Tryz.checked os 3 .any ((OpenSpec.ofChange Rows.slotsPacksSpec).preRow enc Tryz.prog Tryz.f3 Rows.slotsPacksRow.domain false Rows.slotsPacksRow.laid) (((OpenSpec.ofChange Rows.slotsPacksSpec).at F).post enc Tryz.prog Tryz.f3 false true false false) := by
  obtain ⟨places, hx⟩ := reads os enc
  refine returnsInHanded_of_row (C := Tryz.checked) (s := (OpenSpec.ofChange Rows.slotsPacksSpec)) own started (by kernel_rfl) Tryz.func3
    (witness_row_at (enc := enc) (C := Tryz.checked) false (laidWorld os) #[.slice none 0 0, .int .i64 0] rfl (by kernel_rfl) (by kernel_rfl) (by kernel_rfl)
      (OpenSpec.preRow_of_cond 8 hx (by kernel_rfl) (fun k hk => by cases hk) (by kernel_rfl) (laid_met os))) ?_
  intro W base args ds gs before hval hW _ hcond hsz hL hSh _
  exact contract H enc W base args ds gs before hval hW hsz hL hSh

theorem said : Rows.SlotsPacksSaid :=
  OpenClaim.holds_of_cond 3 Tryz.f3 rfl rfl rfl rfl rfl rfl rfl ⟨rfl, rfl, rfl, rfl, rfl⟩ rfl rfl rfl rfl rfl (by kernel_rfl) Tryz.func3 (by kernel_rfl)
    (of_decide_eq_true (by kernel_rfl)) (by unfold Func.isWrapper; rw [if_neg (of_decide_eq_false (by kernel_rfl))]; exact ⟨rfl, rfl⟩)
    (fun os started H enc _ F => by rw [OpenClaim.pre_eq_preRow]; exact lifted os started H enc F)

theorem noStandIn : ∀ t ∈ ([22, 3] : List TypeId), Tryz.prog.wantsStandIn t = false := by
  intro t ht
  simp only [List.mem_cons, List.not_mem_nil, or_false] at ht
  rcases ht with rfl | rfl
  · exact (show Tryz.prog.wantsStandIn 22 = false by kernel_rfl)
  · exact (show Tryz.prog.wantsStandIn 3 = false by kernel_rfl)
theorem plain (f : FuncId) (fn : Func) (hf : Tryz.pinned.checked.prog.funcNamed "satchel/satchellaw16.SlotsPacks" = some f) (hfn : Tryz.pinned.checked.prog.funcs[f]? = some fn) :
    false = Tryz.pinned.checked.prog.looks [] ∧ ∀ (j : Nat) t, fn.params[j]? = some t → Tryz.pinned.checked.prog.wantsStandIn t = false := by
  obtain rfl : f = 3 := Option.some.inj ((show Tryz.prog.funcNamed "satchel/satchellaw16.SlotsPacks" = some 3 by kernel_rfl).symm.trans hf) |>.symm
  obtain rfl : fn = Tryz.f3 := (Option.some.inj (Tryz.func3.symm.trans hfn)).symm
  refine ⟨by kernel_rfl, fun j t ht => ?_⟩
  rw [Tryz.params3] at ht
  exact noStandIn t (by simpa using Array.mem_of_getElem? ht)

/-- THE CARD -/
theorem proved : Rows.SlotsPacksCardSaid :=
  Claim7.holds_tied_plain_at .later [] _ _ _ _ said (fun _ h => by cases h) (by kernel_rfl) (fun _ h => by cases h) slotsPacks_row_tie rfl ⟨rfl, rfl⟩ (by kernel_rfl) rfl plain (by kernel_rfl)
end Go.Proofs.YtgpahglmhnnobaaGreatDoor.slotsPacks
