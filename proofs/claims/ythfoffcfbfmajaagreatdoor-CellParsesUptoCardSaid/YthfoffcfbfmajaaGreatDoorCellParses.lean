/- Any text is read, or refused, exactly as the document says, for any text of bulk at most 1048576. The library's tables and errors, and the program's own table of the forms' beginnings, stand as the program's text lays them (the card ties them). -/
import Derived.Test.YthfoffcfbfmajaaGreatDoorOpen
import Derived.Test.YthfoffcfbfmajaaGreatDoorCards
import Derived.Test.YthfoffcfbfmajaaGreatDoorTie
import Derived.Deep.DeepHandedRow
import Derived.Lib.LaidTab
import Derived.Test.YthfoffcfbfmajaaGreatDoorBulk
import Derived.Deep.CondSized
import Derived.Test.YthfoffcfbfmajaaGreatDoorCeRefRA
import Derived.Test.YthfoffcfbfmajaaGreatDoorCeSpeak
import Derived.Test.YthfoffcfbfmajaaGreatDoorCeOpen
import Derived.Test.YthfoffcfbfmajaaGreatDoorCeLaid
import Derived.Test.YthfoffcfbfmajaaGreatDoorValSameA
import Derived.Test.YthfoffcfbfmajaaGreatDoorValRefA
import Derived.Test.YthfoffcfbfmajaaGreatDoorValCopy
namespace Go.Proofs.YthfoffcfbfmajaaGreatDoor.cellParses
open Go.ChangeShapes Go.WideShapes Go.ChangeAt Go.RowKit
open Go.ChangeMaps (open_string shut_string)
set_option linter.unusedVariables false
set_option linter.unusedSimpArgs false

set_option maxRecDepth 100000 in
set_option maxHeartbeats 2000000 in
theorem walk (w : World) (hW : CeW w) {s : ByteArray} (hx : s.size ≤ 1048576) :
    Calls Tryz.prog 4 #[.string s] w fun e w' => e = .returned (.bool true) ∧ Below w.heap.size w w' := by
  have hsl : (lS s).length ≤ 1073741824 := by rw [lS_len]; omega
  have HSP := Lib.hid (speaks22_any w hW)
  have hvok := parseV_ok (lS s) hsl
  have HPA : Hid (∀ w', Below w.heap.size w w' → Calls Tryz.prog 14 #[.string s] w' (NewP (parseV (lS s)) w')) := Lib.hid fun w' hb => by
    have h := Parse_any (lS s) w' (hW.below hb (Nat.le_refl _)) hsl
    rw [mk_lS] at h
    exact h
  have HRA : Hid (∀ w', Calls Tryz.prog 15 #[.string s] w' (NewP (parseV (lS s)) w')) := Lib.hid fun w' => by
    have h := Rparse_any (lS s) w' hsl
    rw [mk_lS] at h
    exact h
  unfold NewP at HPA HRA
  obtain ⟨v, hv⟩ : ∃ v, v = (parseV (lS s)).1 := ⟨_, rfl⟩
  obtain ⟨E, hE⟩ : ∃ E, E = (parseV (lS s)).2 := ⟨_, rfl⟩
  rw [← hv] at hvok
  simp only [← hv, ← hE] at HPA HRA
  have HOK := Lib.hid hvok
  have hee : (E == E) = true := by simp
  have HRS := Lib.hid fun w' x y B' h1 h2 h3 => refSame_any v v x y B' w' h1 h2 h3
  rw [sameV_self] at HRS
  unfold Says at HRS
  obtain ⟨k, n, t, ns, ts⟩ := v
  unfold vagg at HPA HRA
  simp only at HPA HRA HRS HOK
  clear hv hE hvok hsl hx hW
  go_enter Tryz.func4, Tryz.ntmps4
  go_wp2_with fail
  refine HSP.out.mono ?_
  rintro e w1 ⟨rfl, b1⟩
  have HB1 := Lib.hid b1
  clear b1 HSP
  go_wp2_with fail
  refine (HPA.out w1 HB1.out).mono ?_
  rintro e w2 ⟨A, c, A', c', rfl, h2⟩
  have HS2 := Lib.hid (((St.start Zf w).below HB1.out).addStM h2)
  clear h2
  have HS3 : Hid (St Zf [BlkA w2.heap.size 25 #[.int .i64 k, .int .i64 n, .string t, .slice A ns.length c, .slice A' ts.length c'], OlA ivl 2 (.slice A ns.length c) ns, OlA svl 9 (.slice A' ts.length c') ts] w (w2.alloc (.cells #[.int .i64 k, .int .i64 n, .string t, .slice A ns.length c, .slice A' ts.length c'] 25))) := Lib.hid (by
    have h := HS2.out
    simp only [List.cons_append, List.nil_append] at h
    exact h.newBlk _ _)
  clear HS2
  go_wp2_with fail
  obtain ⟨pa, hpa⟩ : ∃ p, p = w2.heap.size := ⟨_, rfl⟩
  obtain ⟨wa, hwa⟩ : ∃ x, x = w2.alloc (.cells #[.int .i64 k, .int .i64 n, .string t, .slice A ns.length c, .slice A' ts.length c'] 25) := ⟨_, rfl⟩
  rw [← hwa] at HS3 ⊢
  rw [← hpa] at HS3 ⊢
  clear hwa hpa
  refine (HRA.out wa).mono ?_
  rintro e w3 ⟨D, d, D', d', rfl, h3⟩
  have HS4' := HS3.out.addStM h3
  simp only [List.cons_append, List.nil_append] at HS4'
  have HS4 := Lib.hid (HS4'.newBlk 25 #[.int .i64 k, .int .i64 n, .string t, .slice D ns.length d, .slice D' ts.length d'])
  clear h3 HS4' HS3
  obtain ⟨⟨x0, x1, x2, x3, x4⟩, -, -⟩ := blk_facts HS4.out
  obtain ⟨⟨y0, y1, y2, y3, y4⟩, -, -⟩ := blk_facts HS4.out.bring3
  have hv1 := vr_of (v := ⟨k, n, t, ns, ts⟩) HS4.out.drop HOK.out
  have hv2 := vr_of (v := ⟨k, n, t, ns, ts⟩) HS4.out.drop.drop.drop.drop HOK.out
  have HV1 := Lib.hid hv1
  have HV2 := Lib.hid hv2
  have HB := Lib.hid HS4.out.bel
  clear hv1 hv2
  go_wp2_with fail
  refine (HRS.out _ _ _ _ HV2.out HV1.out (Nat.le_refl _)).mono ?_
  rintro e w5 ⟨rfl, b5⟩
  have HB6 := Lib.hid (HB.out.trans (b5.mono HB.out.size))
  clear b5
  go_wp2
  go_ret
  exact ⟨rfl, HB6.out⟩

/-! ### THE ROW's STEP -/
theorem own : ownKnob Tryz.prog.godebug = none := by kernel_rfl
theorem laidOut : laidOutB Tryz.prog = true := by kernel_rfl

set_option maxRecDepth 100000 in
theorem contract (H : Type) (enc : TypeId × Value → H) (W : World) (base : Nat) (args : Array Value) (ds gs : List (DataW H)) (before : List MemPlace)
    (hval0 : ∀ (j : Nat) t v, Tryz.f4.params[j]? = some t → args[j]? = some v → Value.okWide Tryz.prog W .any base t v)
    (hW : DataW.Whole enc Tryz.prog Tryz.f4.params.toList Rows.cellParsesSpec.vars false W args.toList ds gs before)
    (hk : Rows.uptoSmall H (ds ++ gs) = true)
    (hsz : (DataW.weightsEach Tryz.prog (Tryz.f4.params.toList ++ (Rows.OpenSpec.upto Rows.cellParsesSpec).bare.plain.varTypes Tryz.prog) (ds ++ gs)).all (· ≤ reachBytes) = true) (hL : laidMetH Tryz.prog Rows.cellParsesUptoRow.laid W) (hSh : W.ShapedOpen Tryz.prog) :
    Calls Tryz.prog 4 args W fun e W' => ∃ v, e = .returned v ∧ Rows.cellParsesSpec.post enc Tryz.prog Tryz.f4 false true false false W args v W' := by
  have hval : ∀ (j : Nat) t v, Tryz.f4.params[j]? = some t → args[j]? = some v → Value.okWide Tryz.prog W .any base t v := hval0
  have hW' := hW
  obtain ⟨p, q, hA0, hV, rfl, hfz, hnd⟩ := hW
  have hA : DataW.TrodAll enc Tryz.prog W 0 (fun _ => true) true Tryz.f4.params.toList args.toList ds p := hA0
  rw [Tryz.params4] at hA hval
  obtain ⟨v0, vs0, d0, ds0, p0, q0, hargs, rfl, rfl, h0, r0⟩ := trodAll_cons hA
  obtain ⟨rfl, rfl, rfl⟩ := trodAll_nil r0
  obtain rfl : args = #[v0] := by cases args; simp_all
  obtain ⟨rfl, rfl⟩ := trodVars_none hV
  have k0 := h0
  have lt0 : ∀ x ∈ p0, x.block < W.heap.size := by obtain ⟨m, hm⟩ := k0; exact DataW.trod_lt m _ _ _ hm
  have w0 := reach_at hsz (j := 0) rfl rfl
  have u0 : Rows.uptoBulk d0 ≤ 1048576 := bulk_at hk (by simp)
  clear hA0 hval0 hsz
  obtain ⟨s0, rfl, hx0⟩ := open_celltext (hval 0 _ v0 rfl rfl) w0 h0 lt0 u0
  refine (walk W (cew_of hL hSh) hx0).mono fun e W' ⟨he, bel⟩ => ?_
  subst he
  exact ⟨_, rfl, _, _, _, [], _, [], hW', trodAll_mk1 (shut_bool Tryz.underlying4 _), (trodAll_cons_mk (Below.trod laidOut (by kernel_rfl) (of_decide_eq_true (by kernel_rfl)) k0 bel lt0) trodAll_mk0), rfl, bel.frame _, fun h => by cases h⟩

theorem laid_met (os : Os) : laidMet Tryz.prog Rows.cellParsesUptoRow.laid ((laidWorld os).forCall (fun _ _ => 0) ⟨#[], #[.string ByteArray.empty], []⟩).memory :=
  laid_met0 os
theorem reads (os : Os) {H : Type} (enc : TypeId × Value → H) : ∃ places, DataW.whole enc Tryz.prog ((laidWorld os).forCall (fun _ _ => 0) ⟨#[], #[.string ByteArray.empty], []⟩).memory Tryz.f4.params.toList Rows.cellParsesSpec.vars false (#[.string ByteArray.empty] : Array Value).toList 8 = some ([.lit (.string [])], [], places) :=
  ⟨[], by kernel_rfl⟩

set_option maxRecDepth 100000 in
theorem lifted (os : Os) (started : os.Started) (H : Type) (enc : TypeId × Value → H) (F : Stop.Interp) :
    ReturnsInHanded {} Tryz.checked os 4 .any ((Rows.OpenSpec.upto Rows.cellParsesSpec).preRow enc Tryz.prog Tryz.f4 Rows.cellParsesUptoRow.domain false Rows.cellParsesUptoRow.laid) (((Rows.OpenSpec.upto Rows.cellParsesSpec).at F).post enc Tryz.prog Tryz.f4 false true false false) := by
  obtain ⟨places, hx⟩ := reads os enc
  refine returnsInHanded_of_row (C := Tryz.checked) (s := (Rows.OpenSpec.upto Rows.cellParsesSpec)) own started (by kernel_rfl) Tryz.func4
    (witness_row_at (enc := enc) (C := Tryz.checked) false (laidWorld os) #[.string ByteArray.empty] rfl (by kernel_rfl) (by kernel_rfl) (by kernel_rfl)
      (OpenSpec.preRow_of_cond 8 hx (by kernel_rfl) (fun k hk => by cases hk; kernel_rfl) (by kernel_rfl) (laid_met os))) ?_
  intro W base args ds gs before hval hW _ hcond hsz hL hSh _
  exact contract H enc W base args ds gs before hval hW (hcond _ rfl) hsz hL hSh

theorem said : Rows.CellParsesUptoSaid :=
  OpenClaim.holds_of_cond 4 Tryz.f4 rfl rfl rfl rfl rfl rfl rfl ⟨rfl, rfl, rfl, rfl, rfl⟩ rfl rfl rfl rfl rfl (by kernel_rfl) Tryz.func4 (by kernel_rfl)
    (of_decide_eq_true (by kernel_rfl)) (by unfold Func.isWrapper; rw [if_neg (of_decide_eq_false (by kernel_rfl))]; exact ⟨rfl, rfl⟩)
    (fun os started H enc _ F => by rw [OpenClaim.pre_eq_preRow]; exact lifted os started H enc F)

theorem noStandIn : ∀ t ∈ ([9] : List TypeId), Tryz.prog.wantsStandIn t = false := by
  intro t ht
  simp only [List.mem_cons, List.not_mem_nil, or_false] at ht
  rcases ht with rfl
  · exact (show Tryz.prog.wantsStandIn 9 = false by kernel_rfl)
theorem plain (f : FuncId) (fn : Func) (hf : Tryz.pinned.checked.prog.funcNamed "satchel/satchellaw22.CellParses" = some f) (hfn : Tryz.pinned.checked.prog.funcs[f]? = some fn) :
    true = Tryz.pinned.checked.prog.looks [] ∧ ∀ (j : Nat) t, fn.params[j]? = some t → Tryz.pinned.checked.prog.wantsStandIn t = false := by
  obtain rfl : f = 4 := Option.some.inj ((show Tryz.prog.funcNamed "satchel/satchellaw22.CellParses" = some 4 by kernel_rfl).symm.trans hf) |>.symm
  obtain rfl : fn = Tryz.f4 := (Option.some.inj (Tryz.func4.symm.trans hfn)).symm
  refine ⟨by kernel_rfl, fun j t ht => ?_⟩
  rw [Tryz.params4] at ht
  exact noStandIn t (by simpa using Array.mem_of_getElem? ht)

/-- THE CARD -/
theorem proved : Rows.CellParsesUptoCardSaid :=
  Claim7.holds_tied_plain_at .later [] _ _ _ _ said (fun _ h => by cases h) (by kernel_rfl) (fun _ h => by cases h) cellParsesUpto_row_tie rfl ⟨rfl, rfl⟩ (by kernel_rfl) rfl plain (by kernel_rfl)
end Go.Proofs.YthfoffcfbfmajaaGreatDoor.cellParses
