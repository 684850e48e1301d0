/- What is unpacked is packed into the same bytes. utf8's tables stand as the program's text lays them (the card ties them; no walk reads them). -/
import Derived.Test.YtgpahglmhnnobaaDoorOpen
import Derived.Test.YtgpahglmhnnobaaDoorCards
import Derived.Test.YtgpahglmhnnobaaDoorTie
import Derived.Deep.DeepHandedRow
import Derived.Lib.LaidTab
import Derived.Test.YtgpahglmhnnobaaDoorSlSpeak
import Derived.Test.YtgpahglmhnnobaaDoorSlLaid
import Derived.Test.YtgpahglmhnnobaaDoorSlClone
namespace Go.Proofs.YtgpahglmhnnobaaDoor.slotsBack
open Go.ChangeShapes Go.WideShapes Go.ChangeAt Go.RowKit
open Go.ChangeMaps (open_string shut_string)
set_option linter.unusedVariables false
set_option linter.unusedSimpArgs false

theorem unp_zero {S O : List Nat} {L : List Kv} (h : unpR S O = (0, L)) : fitsB L S O = true ∧ S.length ≤ 128 ∧ L.length ≤ 16 := by
  by_cases hs : S.length % 8 ≠ 0 ∨ 128 < S.length
  · rw [unp_size hs] at h
    simp at h
  · cases ha : inS S with
    | none => rw [unp_slots hs ha] at h; simp at h
    | some a =>
      cases hb : inO O with
      | none => rw [unp_over hs ha hb] at h; simp at h
      | some b =>
        by_cases hm : 16 < a.length + b.length
        · rw [unp_many hs ha hb hm] at h; simp at h
        · rw [unp_fits hs ha hb hm] at h
          split at h
          · rename_i hf
            simp only [Prod.mk.injEq, true_and] at h
            subst h
            refine ⟨hf, by omega, ?_⟩
            rw [(srtK_perm _).length_eq, List.length_append]
            omega
          · simp at h
set_option maxRecDepth 100000 in
set_option maxHeartbeats 1000000 in
theorem walk (w : World) {A : Option Addr} {cap : Nat} {S : List Nat} (r : RB w w.heap.size A S) (hc : S.length ≤ cap) (hm : cap ≤ 140737488351232) {A2 : Option Addr} {cap2 : Nat} {O : List Nat} (r2 : RB w w.heap.size A2 O) (hc2 : O.length ≤ cap2) (hm2 : cap2 ≤ 140737488351232) :
    Calls Tryd.prog 6 #[.slice A S.length cap, .slice A2 O.length cap2] w fun e w' => e = .returned (.bool true) ∧ Below w.heap.size w w' := by
  have HR : Hid (∀ w', Below w.heap.size w w' → RB w' w.heap.size A S ∧ RB w' w.heap.size A2 O) := Lib.hid fun w' hb => ⟨r.below' hb (Nat.le_refl _), r2.below' hb (Nat.le_refl _)⟩
  have HLEN : Hid (S.length ≤ 140737488351232 ∧ O.length ≤ 140737488351232) := Lib.hid (by omega)
  obtain ⟨n, HN⟩ : ∃ n, Hid (n = S.length) := ⟨_, Lib.hid rfl⟩
  obtain ⟨m, HM⟩ : ∃ m, Hid (m = O.length) := ⟨_, Lib.hid rfl⟩
  rw [← HN.out, ← HM.out]
  clear r r2 hc hc2 hm hm2
  go_enter Tryd.func6, Tryd.ntmps6
  go_wp2_with fail
  refine (speaks16_any w).mono ?_
  rintro e w1 ⟨rfl, hb1⟩
  have h1 := (St.start Zf w).below hb1
  have hcl := cloneA h1 (cap := cap) (HR.out w1 hb1).1 hb1.size (Nat.le_trans HLEN.out.1 (by decide))
  rw [← HN.out] at hcl
  have HCL := Lib.hid hcl
  clear hb1 h1 hcl
  go_wp2_with fail
  refine HCL.out.mono ?_
  rintro e w2 ⟨A3, c3, rfl, hc3, hm3, h2⟩
  have hcl := cloneA h2 (cap := cap2) (HR.out w2 h2.bel).2 h2.bel.size (Nat.le_trans HLEN.out.2 (by decide))
  rw [← HM.out] at hcl
  have HCL2 := Lib.hid hcl
  have HC3 : Hid (S.length ≤ c3 ∧ c3 ≤ maxLen) := Lib.hid ⟨by rw [← HN.out]; exact hc3, hm3⟩
  clear h2 hcl hc3 hm3 HCL
  go_wp2_with fail
  refine HCL2.out.mono ?_
  rintro e w3 ⟨A4, c4, rfl, hc4, hm4, h3⟩
  have hu := Unpack_any (As := A3) (Ao := A4) (cs := c3) (co := c4) w3 h3.swap.obR.2.2.2 h3.obR.2.2.2 (Nat.le_refl _) HC3.out.1 HC3.out.2 (Nat.le_trans HLEN.out.2 (by decide))
  obtain ⟨E, HE⟩ : ∃ E, Hid (E = (unpR S O).1) := ⟨_, Lib.hid rfl⟩
  obtain ⟨L, HL⟩ : ∃ L, Hid (L = (unpR S O).2) := ⟨_, Lib.hid rfl⟩
  unfold UnpW at hu
  rw [← HE.out, ← HL.out, ← HN.out, ← HM.out] at hu
  have HU := Lib.hid hu
  have HB3 := Lib.hid h3.bel
  clear h3 hu hc4 hm4 HCL2
  go_wp2_with fail
  refine HU.out.mono ?_
  rintro e w4 ⟨v5, X, rfl, h4, hX, hok⟩
  have HB4 := Lib.hid (HB3.out.trans (h4.bel.mono HB3.out.size))
  obtain ⟨A5, c5, rfl⟩ := kx_form h4
  by_cases h0 : E = 0
  · have hr : unpR S O = (0, L) := Prod.ext (by rw [← HE.out]; exact h0) HL.out.symm
    subst h0
    obtain ⟨f1, f2, f3⟩ := unp_zero hr
    unfold fitsB at f1
    simp only [Bool.and_eq_true, decide_eq_true_eq] at f1
    obtain ⟨⟨g1, g2⟩, g3⟩ := f1
    obtain ⟨-, hq⟩ := h4.kxR hok
    rw [show X.map (·.1) = L from hX] at hq
    have hXl : X.length = L.length := by have := congrArg List.length hX; simpa using this
    have hp := Pack_any A5 c5 w4.heap.size L ((S.length / 8 : Nat) : Int) w4 hq (Nat.le_refl _) (by omega)
    unfold PackW at hp
    rw [g1, g2, g3, ← HN.out, ← hXl] at hp
    obtain ⟨q, HQ⟩ : ∃ q, Hid (q = n / 8) := ⟨_, Lib.hid rfl⟩
    rw [← HQ.out] at hp
    have hq8 : Int.tdiv (n : Int) 8 = (q : Int) := by rw [HQ.out, Int.tdiv_eq_ediv_of_nonneg (by omega)]; omega
    have hq16 : q ≤ 16 := by rw [HQ.out, HN.out]; omega
    have hqw : wrap64 (q : Int) = (q : Int) := by unfold wrap64; omega
    have HP := Lib.hid hp
    clear h4 hX hok hq hXl hp hr f2 f3 g1 g2 g3
    go_wp2_with fail
    refine HP.out.mono ?_
    rintro e w5 ⟨v6, v7, rfl, h5⟩
    obtain ⟨A6, c6, rfl, -, -, -, -⟩ := h5.ob.form
    obtain ⟨A7, c7, rfl, -, -, -, -⟩ := h5.drop.ob.form
    have hb5 := HB4.out.trans (h5.bel.mono HB4.out.size)
    have s1 := same_yes A6 A n c6 cap _ _ S w5 h5.obR.2.2.2 (HR.out w5 hb5).1 HN.out.symm (by rw [HN.out]; exact Nat.le_trans HLEN.out.1 (by decide))
    have HS1 := Lib.hid s1
    have HS2 : Hid (∀ k, Calls Tryd.prog 17 #[.slice A7 m c7, .slice A2 m cap2] (w5.drewN k) (SameB true (w5.drewN k))) := Lib.hid fun k => same_yes A7 A2 m c7 cap2 _ _ O (w5.drewN k) (h5.drop.drewN k).obR.2.2.2 (HR.out _ (below_drewN hb5 k)).2 HM.out.symm (by rw [HM.out]; exact Nat.le_trans HLEN.out.2 (by decide))
    have HB5 := Lib.hid hb5
    rw [← HN.out, ← HM.out]
    clear h5 hb5 s1 HP
    go_wp2_with fail
    refine HS1.out.mono ?_
    rintro e w6 ⟨rfl, k6, hw6⟩
    have HS3 := Lib.hid (HS2.out k6)
    rw [← hw6] at HS3
    have HB6 : Hid (Below w.heap.size w w6) := Lib.hid (by rw [hw6]; exact below_drewN HB5.out _)
    clear hw6 HS2 HS1
    go_wp2_with fail
    refine HS3.out.mono ?_
    rintro e w7 ⟨rfl, k7, hw7⟩
    have HB7 : Hid (Below w.heap.size w w7) := Lib.hid (by rw [hw7]; exact below_drewN HB6.out _)
    clear hw7 HS3
    go_wp2
    go_ret
    exact ⟨rfl, HB7.out⟩
  · have hbe : (E != 0) = true := by simpa using h0
    have hL0 : L = [] := by
      have h1 := HE.out
      have h2 := HL.out
      unfold unpR at h1 h2
      split at h1
      · rename_i hs
        rw [if_pos hs] at h2
        exact h2
      · rename_i hs
        rw [if_neg hs] at h2
        cases ha : inS S with
        | none => rw [ha] at h2; exact h2
        | some a =>
          rw [ha] at h1 h2
          simp only at h1 h2
          cases hb : inO O with
          | none => rw [hb] at h2; exact h2
          | some b =>
            rw [hb] at h1 h2
            simp only at h1 h2
            split at h1
            · rename_i hm
              rw [if_pos hm] at h2
              exact h2
            · rename_i hm
              rw [if_neg hm] at h2
              split at h1
              · exact absurd h1 h0
              · rename_i hf
                rw [if_neg hf] at h2
                exact h2
    have hX0 : X = [] := by rw [hL0] at hX; exact List.map_eq_nil_iff.1 hX
    subst hX0
    clear h4 hX hok h0
    go_wp2
    go_ret
    exact ⟨rfl, HB4.out⟩

/-! ### THE ROW's STEP -/
theorem own : ownKnob Tryd.prog.godebug = none := by kernel_rfl
theorem laidOut : laidOutB Tryd.prog = true := by kernel_rfl

set_option maxRecDepth 100000 in
theorem contract (H : Type) (enc : TypeId × Value → H) (W : World) (base : Nat) (args : Array Value) (ds gs : List (DataW H)) (before : List MemPlace)
    (hval0 : ∀ (j : Nat) t v, Tryd.f6.params[j]? = some t → args[j]? = some v → Value.okWide Tryd.prog W .any base t v)
    (hW : DataW.Whole enc Tryd.prog Tryd.f6.params.toList Rows.slotsBackSpec.vars false W args.toList ds gs before)
    (hsz : (DataW.weightsEach Tryd.prog (Tryd.f6.params.toList ++ (OpenSpec.ofChange Rows.slotsBackSpec).bare.plain.varTypes Tryd.prog) (ds ++ gs)).all (· ≤ reachBytes) = true) (hL : laidMetH Tryd.prog Rows.slotsBackRow.laid W) (hSh : W.ShapedOpen Tryd.prog) :
    Calls Tryd.prog 6 args W fun e W' => ∃ v, e = .returned v ∧ Rows.slotsBackSpec.post enc Tryd.prog Tryd.f6 false true false false W args v W' := by
  have hval : ∀ (j : Nat) t v, Tryd.f6.params[j]? = some t → args[j]? = some v → Value.okWide Tryd.prog W .any base t v := hval0
  have hW' := hW
  obtain ⟨p, q, hA0, hV, rfl, hfz, hnd⟩ := hW
  have hA : DataW.TrodAll enc Tryd.prog W 0 (fun _ => true) true Tryd.f6.params.toList args.toList ds p := hA0
  rw [Tryd.params6] at hA hval
  obtain ⟨v0, vs0, d0, ds0, p0, q0, hargs, rfl, rfl, h0, r0⟩ := trodAll_cons hA
  obtain ⟨v1, vs1, d1, ds1, p1, q1, rfl, rfl, rfl, h1, r1⟩ := trodAll_cons r0
  obtain ⟨rfl, rfl, rfl⟩ := trodAll_nil r1
  obtain rfl : args = #[v0, v1] := by cases args; simp_all
  obtain ⟨rfl, rfl⟩ := trodVars_none hV
  have k0 := h0
  have lt0 : ∀ x ∈ p0, x.block < W.heap.size := by obtain ⟨m, hm⟩ := k0; exact DataW.trod_lt m _ _ _ hm
  have w0 := reach_at hsz (j := 0) rfl rfl
  have k1 := h1
  have lt1 : ∀ x ∈ p1, x.block < W.heap.size := by obtain ⟨m, hm⟩ := k1; exact DataW.trod_lt m _ _ _ hm
  have w1 := reach_at hsz (j := 1) rfl rfl
  clear hA0 hval0 hsz
  obtain ⟨A0, n0, c0, rfl⟩ := okWide_slice Tryd.underlying31 (hval 0 31 v0 rfl rfl)
  obtain ⟨b0, rfl, rb0, cb0, mb0⟩ := open_bytes Tryd.underlying31 Tryd.underlying5 (by kernel_rfl) (by kernel_rfl) w0 h0
  obtain ⟨A1, n1, c1, rfl⟩ := okWide_slice Tryd.underlying31 (hval 1 31 v1 rfl rfl)
  obtain ⟨b1, rfl, rb1, cb1, mb1⟩ := open_bytes Tryd.underlying31 Tryd.underlying5 (by kernel_rfl) (by kernel_rfl) w1 h1
  refine (walk W rb0 cb0 mb0 rb1 cb1 mb1).mono fun e W' ⟨he, bel⟩ => ?_
  subst he
  exact ⟨_, rfl, _, _, _, [], _, [], hW', trodAll_mk1 (shut_bool Tryd.underlying4 _), (trodAll_cons_mk (Below.trod laidOut (by kernel_rfl) (of_decide_eq_true (by kernel_rfl)) k0 bel lt0) (trodAll_cons_mk (Below.trod laidOut (by kernel_rfl) (of_decide_eq_true (by kernel_rfl)) k1 bel lt1) trodAll_mk0)), rfl, bel.frame _, fun h => by cases h⟩

theorem laid_met (os : Os) : laidMet Tryd.prog Rows.slotsBackRow.laid ((laidWorld os).forCall (fun _ _ => 0) ⟨#[], #[.slice none 0 0, .slice none 0 0], []⟩).memory :=
  laid_met0 os
theorem reads (os : Os) {H : Type} (enc : TypeId × Value → H) : ∃ places, DataW.whole enc Tryd.prog ((laidWorld os).forCall (fun _ _ => 0) ⟨#[], #[.slice none 0 0, .slice none 0 0], []⟩).memory Tryd.f6.params.toList Rows.slotsBackSpec.vars false (#[.slice none 0 0, .slice none 0 0] : Array Value).toList 8 = some ([.nil, .nil], [], places) :=
  ⟨[], by kernel_rfl⟩

set_option maxRecDepth 100000 in
theorem lifted (os : Os) (started : os.Started) (H : Type) (enc : TypeId × Value → H) (F : Stop.Interp) :
    ReturnsInHanded {} Tryd.checked os 6 .any ((OpenSpec.ofChange Rows.slotsBackSpec).preRow enc Tryd.prog Tryd.f6 Rows.slotsBackRow.domain false Rows.slotsBackRow.laid) (((OpenSpec.ofChange Rows.slotsBackSpec).at F).post enc Tryd.prog Tryd.f6 false true false false) := by
  obtain ⟨places, hx⟩ := reads os enc
  refine returnsInHanded_of_row (C := Tryd.checked) (s := (OpenSpec.ofChange Rows.slotsBackSpec)) own started (by kernel_rfl) Tryd.func6
    (witness_row_at (enc := enc) (C := Tryd.checked) false (laidWorld os) #[.slice none 0 0, .slice none 0 0] rfl (by kernel_rfl) (by kernel_rfl) (by kernel_rfl)
      (OpenSpec.preRow_of_cond 8 hx (by kernel_rfl) (fun k hk => by cases hk) (by kernel_rfl) (laid_met os))) ?_
  intro W base args ds gs before hval hW _ hcond hsz hL hSh _
  exact contract H enc W base args ds gs before hval hW hsz hL hSh

theorem said : Rows.SlotsBackSaid :=
  OpenClaim.holds_of_cond 6 Tryd.f6 rfl rfl rfl rfl rfl rfl rfl ⟨rfl, rfl, rfl, rfl, rfl⟩ rfl rfl rfl rfl rfl (by kernel_rfl) Tryd.func6 (by kernel_rfl)
    (of_decide_eq_true (by kernel_rfl)) (by unfold Func.isWrapper; rw [if_neg (of_decide_eq_false (by kernel_rfl))]; exact ⟨rfl, rfl⟩)
    (fun os started H enc _ F => by rw [OpenClaim.pre_eq_preRow]; exact lifted os started H enc F)

theorem noStandIn : ∀ t ∈ ([31, 31] : List TypeId), Tryd.prog.wantsStandIn t = false := by
  intro t ht
  simp only [List.mem_cons, List.not_mem_nil, or_false] at ht
  rcases ht with rfl | rfl
  · exact (show Tryd.prog.wantsStandIn 31 = false by kernel_rfl)
  · exact (show Tryd.prog.wantsStandIn 31 = false by kernel_rfl)
theorem plain (f : FuncId) (fn : Func) (hf : Tryd.pinned.checked.prog.funcNamed "satchel/satchellaw16.SlotsBack" = some f) (hfn : Tryd.pinned.checked.prog.funcs[f]? = some fn) :
    false = Tryd.pinned.checked.prog.looks [] ∧ ∀ (j : Nat) t, fn.params[j]? = some t → Tryd.pinned.checked.prog.wantsStandIn t = false := by
  obtain rfl : f = 6 := Option.some.inj ((show Tryd.prog.funcNamed "satchel/satchellaw16.SlotsBack" = some 6 by kernel_rfl).symm.trans hf) |>.symm
  obtain rfl : fn = Tryd.f6 := (Option.some.inj (Tryd.func6.symm.trans hfn)).symm
  refine ⟨by kernel_rfl, fun j t ht => ?_⟩
  rw [Tryd.params6] at ht
  exact noStandIn t (by simpa using Array.mem_of_getElem? ht)

/-- THE CARD -/
theorem proved : Rows.SlotsBackCardSaid :=
  Claim7.holds_tied_plain_at .later [] _ _ _ _ said (fun _ h => by cases h) (by kernel_rfl) (fun _ h => by cases h) slotsBack_row_tie rfl ⟨rfl, rfl⟩ (by kernel_rfl) rfl plain (by kernel_rfl)
end Go.Proofs.YtgpahglmhnnobaaDoor.slotsBack
