/- What is read is a right value, and the text is its one form, for any text of bulk at most 1048576. The library's tables and errors, and the program's own table of the forms' beginnings, stand as the program's text lays them (the card ties them). -/
import Derived.Test.YthfoffcfbfmajaaGreatDoorOpen
import Derived.Test.YthfoffcfbfmajaaGreatDoorCards
import Derived.Test.YthfoffcfbfmajaaGreatDoorTie
import Derived.Deep.DeepHandedRow
import Derived.Lib.LaidTab
import Derived.Test.YthfoffcfbfmajaaGreatDoorBulk
import Derived.Deep.CondSized
import Derived.Test.YthfoffcfbfmajaaGreatDoorCeSpeak
import Derived.Test.YthfoffcfbfmajaaGreatDoorCeOpen
import Derived.Test.YthfoffcfbfmajaaGreatDoorCeLaid
import Derived.Test.YthfoffcfbfmajaaGreatDoorValSameA
import Derived.Test.YthfoffcfbfmajaaGreatDoorValRefA
import Derived.Test.YthfoffcfbfmajaaGreatDoorValCopy
namespace Go.Proofs.YthfoffcfbfmajaaGreatDoor.cellOne
open Go.ChangeShapes Go.WideShapes Go.ChangeAt Go.RowKit
open Go.ChangeMaps (open_string shut_string)
set_option linter.unusedVariables false
set_option linter.unusedSimpArgs false

set_option maxRecDepth 100000 in
set_option maxHeartbeats 2000000 in
theorem walk (w : World) (hW : CeW w) {s : ByteArray} (hx : s.size ≤ 1048576) :
    Calls Tryz.prog 6 #[.string s] w fun e w' => e = .returned (.bool true) ∧ Below w.heap.size w w' := by
  have hsl : (lS s).length ≤ 1073741824 := by rw [lS_len]; omega
  have HSP := Lib.hid (speaks22_any w hW)
  have hvok := parseV_ok (lS s) hsl
  obtain ⟨v, hv⟩ : ∃ v, v = (parseV (lS s)).1 := ⟨_, rfl⟩
  obtain ⟨E, hE⟩ : ∃ E, E = (parseV (lS s)).2 := ⟨_, rfl⟩
  have hp : parseV (lS s) = (v, E) := by rw [hv, hE]
  have HPA : Hid (∀ w', Below w.heap.size w w' → Calls Tryz.prog 14 #[.string s] w' fun e w2 => ∃ A c A' c', e = .returned (.tuple #[vagg v A c A' c', .int .i64 E]) ∧ VR w2 w2.heap.size v (vagg v A c A' c') ∧ Below w'.heap.size w' w2) := Lib.hid fun w' hb => by
    have h := Parse_any (lS s) w' (hW.below hb (Nat.le_refl _)) hsl
    rw [mk_lS, hp] at h
    exact h.mono fun e w2 ⟨A, c, A', c', he, hs⟩ => ⟨A, c, A', c', he, vr_of hs (by rw [hv]; exact hvok), hs.bel⟩
  by_cases h0 : E = 0
  · subst h0
    obtain ⟨hck, hpr⟩ := parseV_one (l := lS s) hE.symm
    rw [← hv] at hck hpr
    have HPR : Hid (∀ x w1, Below w.heap.size w w1 → VR w1 w1.heap.size v x → Calls Tryz.prog 11 #[x] w1 fun e w2 => e = .returned (.tuple #[.string s, .int .i64 0]) ∧ Below w1.heap.size w1 w2) := Lib.hid fun x w1 hb h => by
      have hq := Print_any v x _ w1 (hW.below hb (Nat.le_refl _)) h (Nat.le_refl _)
      unfold PrPost at hq
      rw [hpr, mk_lS] at hq
      exact hq
    have HRC : Hid (∀ x w1, VR w1 w1.heap.size v x → Calls Tryz.prog 16 #[x] w1 fun e w2 => e = .returned (.int .i64 0) ∧ Below w1.heap.size w1 w2) := Lib.hid fun x w1 h => by
      have hq := refCheck_any v x _ w1 h (Nat.le_refl _)
      unfold Told at hq
      rw [hck] at hq
      exact hq
    obtain ⟨k, n, t, ns, ts⟩ := v
    unfold vagg at HPA
    simp only at HPA HPR HRC
    have hself : (s.toList == s.toList) = true := by simp
    clear hv hE hp hck hpr hvok hsl hx hW
    go_enter Tryz.func6, Tryz.ntmps6
    go_wp2_with fail
    refine HSP.out.mono ?_
    rintro e w1 ⟨rfl, b1⟩
    have HB1 := Lib.hid b1
    clear b1 HSP
    go_wp2_with fail
    refine (HPA.out w1 HB1.out).mono ?_
    rintro e w2 ⟨A, c, A', c', rfl, hv2, b2⟩
    have HB2 := Lib.hid (HB1.out.trans (b2.mono HB1.out.size))
    have HV := Lib.hid (hv2.alloc (Nat.le_refl _) (.cells #[.int .i64 k, .int .i64 n, .string t, .slice A ns.length c, .slice A' ts.length c'] 25))
    clear b2 hv2
    obtain ⟨wo, hwo⟩ : ∃ x, x = w2.alloc (.cells #[.int .i64 k, .int .i64 n, .string t, .slice A ns.length c, .slice A' ts.length c'] 25) := ⟨_, rfl⟩
    rw [← hwo] at HV
    have HBo : Hid (Blk wo w2.heap.size 25 #[.int .i64 k, .int .i64 n, .string t, .slice A ns.length c, .slice A' ts.length c']) := Lib.hid (by rw [hwo]; exact Blk.new _ _ _)
    have HB3 : Hid (Below w.heap.size w wo) := Lib.hid (by rw [hwo]; exact HB2.out.alloc HB2.out.size _)
    have hso : w2.heap.size ≤ wo.heap.size := by rw [hwo, World.size_alloc]; exact Nat.le_succ _
    have HWO := Lib.hid hwo
    clear hwo
    go_wp2_with fail
    rw [← HWO.out]
    refine (HPR.out _ wo HB3.out (HV.out.more hso)).mono ?_
    rintro e w3 ⟨rfl, b3⟩
    have HB4 := Lib.hid (HB3.out.trans (b3.mono HB3.out.size))
    have HV3 := Lib.hid ((HV.out.more hso).below b3 |>.more b3.size)
    obtain ⟨x0, x1, x2, x3, x4⟩ := box_cells (HBo.out.below b3 HBo.out.lt)
    clear b3
    go_wp2_with fail
    refine (HRC.out _ w3 HV3.out).mono ?_
    rintro e w4 ⟨rfl, b4⟩
    have HB5 := Lib.hid (HB4.out.trans (b4.mono HB4.out.size))
    clear b4
    go_wp2
    go_ret
    exact ⟨rfl, HB5.out⟩
  · have HQ : Hid (v = noneV) := Lib.hid (by rw [hv]; exact parseV_err _ (by rw [← hE]; exact h0))
    have hne : (E != 0) = true := by simpa using h0
    rw [HQ.out] at HPA
    have HRS : Hid (∀ x w1, VR w1 w1.heap.size noneV x → Calls Tryz.prog 13 #[x, .agg #[.int .i64 0, .int .i64 0, .string ⟨#[]⟩, .slice none 0 0, .slice none 0 0]] w1 fun e w2 => e = .returned (.bool true) ∧ Below w1.heap.size w1 w2) := Lib.hid fun x w1 h => by
      have hq := refSame_any noneV noneV x (vagg noneV none 0 none 0) _ w1 h ⟨none, 0, none, 0, rfl, RL.empty _ _ _ _, RL.empty _ _ _ _, noneV_ok⟩ (Nat.le_refl _)
      rw [sameV_self] at hq
      exact hq
    have HPA2 : Hid (∀ w', Below w.heap.size w w' → Calls Tryz.prog 14 #[.string s] w' fun e w2 => ∃ A c A' c', e = .returned (.tuple #[.agg #[.int .i64 0, .int .i64 0, .string ⟨#[]⟩, .slice A 0 c, .slice A' 0 c'], .int .i64 E]) ∧ VR w2 w2.heap.size noneV (.agg #[.int .i64 0, .int .i64 0, .string ⟨#[]⟩, .slice A 0 c, .slice A' 0 c']) ∧ Below w'.heap.size w' w2) := HPA
    clear hv hE hp hvok hsl hx hW h0 HPA HQ
    go_enter Tryz.func6, Tryz.ntmps6
    go_wp2_with fail
    refine HSP.out.mono ?_
    rintro e w1 ⟨rfl, b1⟩
    have HB1 := Lib.hid b1
    clear b1 HSP
    go_wp2_with fail
    refine (HPA2.out w1 HB1.out).mono ?_
    rintro e w2 ⟨A, c, A', c', rfl, hv2, b2⟩
    have HB2 := Lib.hid ((HB1.out.trans (b2.mono HB1.out.size)).alloc (Nat.le_trans HB1.out.size b2.size) (.cells #[.int .i64 0, .int .i64 0, .string ⟨#[]⟩, .slice A 0 c, .slice A' 0 c'] 25))
    have HV := Lib.hid (hv2.alloc (Nat.le_refl _) (.cells #[.int .i64 0, .int .i64 0, .string ⟨#[]⟩, .slice A 0 c, .slice A' 0 c'] 25))
    have hso : w2.heap.size ≤ (w2.alloc (.cells #[.int .i64 0, .int .i64 0, .string ⟨#[]⟩, .slice A 0 c, .slice A' 0 c'] 25)).heap.size := by rw [World.size_alloc]; exact Nat.le_succ _
    have HS := Lib.hid (HRS.out _ _ (HV.out.more hso))
    clear b2 hv2 hso
    go_wp2_with fail
    refine HS.out.mono ?_
    rintro e w3 ⟨rfl, b3⟩
    have HB3 := Lib.hid (HB2.out.trans (b3.mono HB2.out.size))
    clear b3
    go_wp2
    go_ret
    exact ⟨rfl, HB3.out⟩

/-! ### THE ROW's STEP -/
theorem own : ownKnob Tryz.prog.godebug = none := by kernel_rfl
theorem laidOut : laidOutB Tryz.prog = true := by kernel_rfl

set_option maxRecDepth 100000 in
theorem contract (H : Type) (enc : TypeId × Value → H) (W : World) (base : Nat) (args : Array Value) (ds gs : List (DataW H)) (before : List MemPlace)
    (hval0 : ∀ (j : Nat) t v, Tryz.f6.params[j]? = some t → args[j]? = some v → Value.okWide Tryz.prog W .any base t v)
    (hW : DataW.Whole enc Tryz.prog Tryz.f6.params.toList Rows.cellOneSpec.vars false W args.toList ds gs before)
    (hk : Rows.uptoSmall H (ds ++ gs) = true)
    (hsz : (DataW.weightsEach Tryz.prog (Tryz.f6.params.toList ++ (Rows.OpenSpec.upto Rows.cellOneSpec).bare.plain.varTypes Tryz.prog) (ds ++ gs)).all (· ≤ reachBytes) = true) (hL : laidMetH Tryz.prog Rows.cellOneUptoRow.laid W) (hSh : W.ShapedOpen Tryz.prog) :
    Calls Tryz.prog 6 args W fun e W' => ∃ v, e = .returned v ∧ Rows.cellOneSpec.post enc Tryz.prog Tryz.f6 false true false false W args v W' := by
  have hval : ∀ (j : Nat) t v, Tryz.f6.params[j]? = some t → args[j]? = some v → Value.okWide Tryz.prog W .any base t v := hval0
  have hW' := hW
  obtain ⟨p, q, hA0, hV, rfl, hfz, hnd⟩ := hW
  have hA : DataW.TrodAll enc Tryz.prog W 0 (fun _ => true) true Tryz.f6.params.toList args.toList ds p := hA0
  rw [Tryz.params6] at hA hval
  obtain ⟨v0, vs0, d0, ds0, p0, q0, hargs, rfl, rfl, h0, r0⟩ := trodAll_cons hA
  obtain ⟨rfl, rfl, rfl⟩ := trodAll_nil r0
  obtain rfl : args = #[v0] := by cases args; simp_all
  obtain ⟨rfl, rfl⟩ := trodVars_none hV
  have k0 := h0
  have lt0 : ∀ x ∈ p0, x.block < W.heap.size := by obtain ⟨m, hm⟩ := k0; exact DataW.trod_lt m _ _ _ hm
  have w0 := reach_at hsz (j := 0) rfl rfl
  have u0 : Rows.uptoBulk d0 ≤ 1048576 := bulk_at hk (by simp)
  clear hA0 hval0 hsz
  obtain ⟨s0, rfl, hx0⟩ := open_celltext (hval 0 _ v0 rfl rfl) w0 h0 lt0 u0
  refine (walk W (cew_of hL hSh) hx0).mono fun e W' ⟨he, bel⟩ => ?_
  subst he
  exact ⟨_, rfl, _, _, _, [], _, [], hW', trodAll_mk1 (shut_bool Tryz.underlying4 _), (trodAll_cons_mk (Below.trod laidOut (by kernel_rfl) (of_decide_eq_true (by kernel_rfl)) k0 bel lt0) trodAll_mk0), rfl, bel.frame _, fun h => by cases h⟩

theorem laid_met (os : Os) : laidMet Tryz.prog Rows.cellOneUptoRow.laid ((laidWorld os).forCall (fun _ _ => 0) ⟨#[], #[.string ByteArray.empty], []⟩).memory :=
  laid_met0 os
theorem reads (os : Os) {H : Type} (enc : TypeId × Value → H) : ∃ places, DataW.whole enc Tryz.prog ((laidWorld os).forCall (fun _ _ => 0) ⟨#[], #[.string ByteArray.empty], []⟩).memory Tryz.f6.params.toList Rows.cellOneSpec.vars false (#[.string ByteArray.empty] : Array Value).toList 8 = some ([.lit (.string [])], [], places) :=
  ⟨[], by kernel_rfl⟩

set_option maxRecDepth 100000 in
theorem lifted (os : Os) (started : os.Started) (H : Type) (enc : TypeId × Value → H) (F : Stop.Interp) :
    ReturnsInHanded {} Tryz.checked os 6 .any ((Rows.OpenSpec.upto Rows.cellOneSpec).preRow enc Tryz.prog Tryz.f6 Rows.cellOneUptoRow.domain false Rows.cellOneUptoRow.laid) (((Rows.OpenSpec.upto Rows.cellOneSpec).at F).post enc Tryz.prog Tryz.f6 false true false false) := by
  obtain ⟨places, hx⟩ := reads os enc
  refine returnsInHanded_of_row (C := Tryz.checked) (s := (Rows.OpenSpec.upto Rows.cellOneSpec)) own started (by kernel_rfl) Tryz.func6
    (witness_row_at (enc := enc) (C := Tryz.checked) false (laidWorld os) #[.string ByteArray.empty] rfl (by kernel_rfl) (by kernel_rfl) (by kernel_rfl)
      (OpenSpec.preRow_of_cond 8 hx (by kernel_rfl) (fun k hk => by cases hk; kernel_rfl) (by kernel_rfl) (laid_met os))) ?_
  intro W base args ds gs before hval hW _ hcond hsz hL hSh _
  exact contract H enc W base args ds gs before hval hW (hcond _ rfl) hsz hL hSh

theorem said : Rows.CellOneUptoSaid :=
  OpenClaim.holds_of_cond 6 Tryz.f6 rfl rfl rfl rfl rfl rfl rfl ⟨rfl, rfl, rfl, rfl, rfl⟩ rfl rfl rfl rfl rfl (by kernel_rfl) Tryz.func6 (by kernel_rfl)
    (of_decide_eq_true (by kernel_rfl)) (by unfold Func.isWrapper; rw [if_neg (of_decide_eq_false (by kernel_rfl))]; exact ⟨rfl, rfl⟩)
    (fun os started H enc _ F => by rw [OpenClaim.pre_eq_preRow]; exact lifted os started H enc F)

theorem noStandIn : ∀ t ∈ ([9] : List TypeId), Tryz.prog.wantsStandIn t = false := by
  intro t ht
  simp only [List.mem_cons, List.not_mem_nil, or_false] at ht
  rcases ht with rfl
  · exact (show Tryz.prog.wantsStandIn 9 = false by kernel_rfl)
theorem plain (f : FuncId) (fn : Func) (hf : Tryz.pinned.checked.prog.funcNamed "satchel/satchellaw22.CellOne" = some f) (hfn : Tryz.pinned.checked.prog.funcs[f]? = some fn) :
    true = Tryz.pinned.checked.prog.looks [] ∧ ∀ (j : Nat) t, fn.params[j]? = some t → Tryz.pinned.checked.prog.wantsStandIn t = false := by
  obtain rfl : f = 6 := Option.some.inj ((show Tryz.prog.funcNamed "satchel/satchellaw22.CellOne" = some 6 by kernel_rfl).symm.trans hf) |>.symm
  obtain rfl : fn = Tryz.f6 := (Option.some.inj (Tryz.func6.symm.trans hfn)).symm
  refine ⟨by kernel_rfl, fun j t ht => ?_⟩
  rw [Tryz.params6] at ht
  exact noStandIn t (by simpa using Array.mem_of_getElem? ht)

/-- THE CARD -/
theorem proved : Rows.CellOneUptoCardSaid :=
  Claim7.holds_tied_plain_at .later [] _ _ _ _ said (fun _ h => by cases h) (by kernel_rfl) (fun _ h => by cases h) cellOneUpto_row_tie rfl ⟨rfl, rfl⟩ (by kernel_rfl) rfl plain (by kernel_rfl)
end Go.Proofs.YthfoffcfbfmajaaGreatDoor.cellOne
