/- What is read of any text, of bulk at most 1048576, has rows of at least one field, and its print is read as the same rows. utf8's tables stand as the program's text lays them (the card ties them; no walk reads them). -/
import Derived.Test.YtmdljfpkbfhbdaaDoorOpen
import Derived.Test.YtmdljfpkbfhbdaaDoorCards
import Derived.Test.YtmdljfpkbfhbdaaDoorTie
import Derived.Deep.DeepHandedRow
import Derived.Lib.LaidTab
import Derived.Test.YtmdljfpkbfhbdaaDoorBulk
import Derived.Deep.CondSized
import Derived.Test.YtmdljfpkbfhbdaaDoorCsLaw
import Derived.Test.YtmdljfpkbfhbdaaDoorCsOpen
import Derived.Test.YtmdljfpkbfhbdaaDoorCsLaid
namespace Go.Proofs.YtmdljfpkbfhbdaaDoor.csvBack
open Go.ChangeShapes Go.WideShapes Go.ChangeAt Go.RowKit
open Go.ChangeMaps (open_string shut_string)
set_option linter.unusedVariables false
set_option linter.unusedSimpArgs false

set_option maxRecDepth 100000 in
set_option maxHeartbeats 1000000 in
theorem walk (w : World) (hM : MW w) {s : ByteArray} (hx : s.size ≤ 1048576) :
    Calls Tryd.prog 7 #[.string s] w fun e w' => e = .returned (.bool true) ∧ Below w.heap.size w w' := by
  have HM := Lib.hid hM
  have HX := Lib.hid hx
  have HSP := Lib.hid (speaks21_any w hM)
  have HP := Lib.hid fun w => Parse_w s w (by omega)
  have HWT : Hid (rowsW (rowsP s) ≤ 1073741824) := Lib.hid (by have := rowsP_weight s; omega)
  have HWT2 : Hid (rowsW (rowsP s) ≤ 8388608) := Lib.hid (by have := rowsP_weight s; omega)
  clear hM hx
  by_cases hE : errP s = 0
  · have HR : Hid (rowsP s = (csvR (lS s)).1) := Lib.hid (if_pos hE)
    have HNE : Hid (∀ r ∈ rowsP s, r ≠ []) := Lib.hid (by rw [HR.out]; exact csvR_rows _)
    have HPR := Lib.hid (print_ok HNE.out)
    have HBK := Lib.hid (parse_back HNE.out)
    have HSZ : Hid ((mkS (rowsT (rowsP s))).size ≤ 1073741824) := Lib.hid (by
      have h1 := rowsT_len (rowsP s)
      have h2 := HWT.out
      rw [mkS_size]
      omega)
    have HEM : Hid ((rowsP s).length = 0 ↔ s.toList = []) := Lib.hid (by
      have h1 := csvR_empty (l := lS s) hE
      rw [HR.out, List.length_eq_zero_iff, h1, ByteArray.toList_eq]
      exact Iff.rfl)
    have HPS := Lib.hid fun w => Parse_w (mkS (rowsT (rowsP s))) w HSZ.out
    rw [HBK.out.1, HBK.out.2] at HPS
    rw [hE] at HP
    clear hE
    generalize rowsP s = R at *
    obtain ⟨S, hS⟩ : ∃ S, S = mkS (rowsT R) := ⟨_, rfl⟩
    rw [← hS] at HPS HPR
    clear hS HBK HSZ HR
    go_enter Tryd.func7, Tryd.ntmps7
    go_wp2_with fail
    refine HSP.out.mono ?_
    rintro e w1 ⟨rfl, hb1⟩
    have H1 := Lib.hid ((St.start Zf w).below hb1)
    clear hb1
    go_wp2_with fail
    refine (HP.out _).mono ?_
    rintro e w2 ⟨A, c, X, n, rfl, hn, hX, h2⟩
    have h3 := H1.out.addStL h2
    obtain ⟨-, hy1, hy2, hy3⟩ := h3.rws
    have hcp := Copy_w A c _ X w2 hy3 (Nat.le_refl _) (by rw [hn]; exact hy1) (by rw [hX]; exact HWT.out)
    rw [hn] at hcp
    have HCP := Lib.hid hcp
    have H3 := Lib.hid h3
    have HN := Lib.hid hn
    have HXR := Lib.hid hX
    clear h2 h3 hy1 hy2 hy3 hcp hn hX
    go_wp2_with fail
    refine HCP.out.mono ?_
    rintro e w3 ⟨A3, c3, Y, rfl, hYl, hY, h4⟩
    have h5 := H3.out.addStL h4
    obtain ⟨-, hy1, hy2, hy3⟩ := h5.rws
    have hpr := Print_any A3 c3 _ Y w3 (HM.out.below h5.bel HM.out.pos) hy3 (Nat.le_refl _) (by rw [hYl]; exact hy1) hy2 (by rw [hY, HXR.out]; exact HWT.out)
    rw [hYl, hY, HXR.out, HPR.out.1, HPR.out.2] at hpr
    have HPRN := Lib.hid hpr
    have H5 := Lib.hid h5.drop
    clear h4 h5 hy1 hy2 hy3 hpr hYl hY
    go_wp2_with fail
    refine HPRN.out.mono ?_
    rintro e w4 ⟨rfl, hb4⟩
    have H6 := Lib.hid (H5.out.below hb4)
    clear hb4
    go_wp2_with fail
    refine (HPS.out _).mono ?_
    rintro e w5 ⟨A5, c5, Z, m, rfl, hm, hZ, h7⟩
    have h8 := H6.out.addStL h7
    obtain ⟨-, -, -, hr1⟩ := h8.rws
    obtain ⟨-, -, -, hr2⟩ := h8.swap.rws
    have hsm := Same_w A A5 c c5 _ _ X Z w5 hr2 hr1 (by rw [HXR.out]; exact HWT.out) (by rw [hZ]; exact HWT.out)
    rw [HN.out, hm, decide_eq_true (HXR.out.trans hZ.symm)] at hsm
    have HSM := Lib.hid hsm
    have HB := Lib.hid h8.bel
    have hRn : R.length = n := by
      have h := congrArg List.length HXR.out
      rw [List.length_map, HN.out] at h
      exact h.symm
    have hem := HEM.out
    rw [hRn] at hem
    have HEM2 := Lib.hid hem
    clear h7 h8 hm hZ hr1 hr2 hsm hRn hem
    by_cases hn0 : n = 0
    · have e1 : ((n : Int) == 0) = true := by rw [hn0]; rfl
      have e1' : (n == 0) = true := by rw [hn0]; rfl
      have e2 : (s.toList == []) = true := by rw [HEM2.out.1 hn0]; rfl
      clear hn0
      go_wp2_with fail
      refine HSM.out.mono ?_
      rintro e w6 ⟨rfl, k6, rfl⟩
      go_wp2
      go_ret
      exact ⟨rfl, below_drewN HB.out _⟩
    · have e1 : ((n : Int) == 0) = false := by rw [beq_eq_false_iff_ne]; omega
      have e1' : (n == 0) = false := by rw [beq_eq_false_iff_ne]; omega
      have e2 : (s.toList == []) = false := by
        rw [beq_eq_false_iff_ne]
        exact fun h => hn0 (HEM2.out.2 h)
      clear hn0
      go_wp2_with fail
      refine HSM.out.mono ?_
      rintro e w6 ⟨rfl, k6, rfl⟩
      go_wp2
      go_ret
      exact ⟨rfl, below_drewN HB.out _⟩
  · have HR : Hid (rowsP s = []) := Lib.hid (if_neg hE)
    have hEb : (errP s != 0) = true := by rw [bne_iff_ne]; exact hE
    clear hE
    generalize errP s = E at *
    go_enter Tryd.func7, Tryd.ntmps7
    go_wp2_with fail
    refine HSP.out.mono ?_
    rintro e w1 ⟨rfl, hb1⟩
    have H1 := Lib.hid ((St.start Zf w).below hb1)
    clear hb1
    go_wp2_with fail
    refine (HP.out _).mono ?_
    rintro e w2 ⟨A, c, X, n, rfl, hn, hX, h2⟩
    have hn0 : n = 0 := by
      rw [HR.out] at hX
      have h := congrArg List.length hX
      rw [List.length_map, hn] at h
      exact h
    subst hn0
    have H2 := Lib.hid (H1.out.addStL h2)
    clear h2 hn hX
    go_wp2
    go_ret
    exact ⟨rfl, H2.out.bel⟩

/-! ### THE ROW's STEP -/
theorem own : ownKnob Tryd.prog.godebug = none := by kernel_rfl
theorem laidOut : laidOutB Tryd.prog = true := by kernel_rfl

set_option maxRecDepth 100000 in
theorem contract (H : Type) (enc : TypeId × Value → H) (W : World) (base : Nat) (args : Array Value) (ds gs : List (DataW H)) (before : List MemPlace)
    (hval0 : ∀ (j : Nat) t v, Tryd.f7.params[j]? = some t → args[j]? = some v → Value.okWide Tryd.prog W .any base t v)
    (hW : DataW.Whole enc Tryd.prog Tryd.f7.params.toList Rows.csvBackSpec.vars false W args.toList ds gs before)
    (hk : Rows.uptoSmall H (ds ++ gs) = true)
    (hsz : (DataW.weightsEach Tryd.prog (Tryd.f7.params.toList ++ (Rows.OpenSpec.upto Rows.csvBackSpec).bare.plain.varTypes Tryd.prog) (ds ++ gs)).all (· ≤ reachBytes) = true) (hL : laidMetH Tryd.prog Rows.csvBackUptoRow.laid W) (hSh : W.ShapedOpen Tryd.prog) :
    Calls Tryd.prog 7 args W fun e W' => ∃ v, e = .returned v ∧ Rows.csvBackSpec.post enc Tryd.prog Tryd.f7 false true false false W args v W' := by
  have hval : ∀ (j : Nat) t v, Tryd.f7.params[j]? = some t → args[j]? = some v → Value.okWide Tryd.prog W .any base t v := hval0
  have hW' := hW
  obtain ⟨p, q, hA0, hV, rfl, hfz, hnd⟩ := hW
  have hA : DataW.TrodAll enc Tryd.prog W 0 (fun _ => true) true Tryd.f7.params.toList args.toList ds p := hA0
  rw [Tryd.params7] at hA hval
  obtain ⟨v0, vs0, d0, ds0, p0, q0, hargs, rfl, rfl, h0, r0⟩ := trodAll_cons hA
  obtain ⟨rfl, rfl, rfl⟩ := trodAll_nil r0
  obtain rfl : args = #[v0] := by cases args; simp_all
  obtain ⟨rfl, rfl⟩ := trodVars_none hV
  have k0 := h0
  have lt0 : ∀ x ∈ p0, x.block < W.heap.size := by obtain ⟨m, hm⟩ := k0; exact DataW.trod_lt m _ _ _ hm
  have w0 := reach_at hsz (j := 0) rfl rfl
  have u0 : Rows.uptoBulk d0 ≤ 1048576 := bulk_at hk (by simp)
  clear hA0 hval0 hsz
  obtain ⟨s0, rfl, hx0⟩ := open_csvtext (hval 0 _ v0 rfl rfl) w0 h0 lt0 u0
  refine (walk W (mw_of hSh) hx0).mono fun e W' ⟨he, bel⟩ => ?_
  subst he
  exact ⟨_, rfl, _, _, _, [], _, [], hW', trodAll_mk1 (shut_bool Tryd.underlying4 _), (trodAll_cons_mk (Below.trod laidOut (by kernel_rfl) (of_decide_eq_true (by kernel_rfl)) k0 bel lt0) trodAll_mk0), rfl, bel.frame _, fun h => by cases h⟩

theorem laid_met (os : Os) : laidMet Tryd.prog Rows.csvBackUptoRow.laid ((laidWorld os).forCall (fun _ _ => 0) ⟨#[], #[.string ByteArray.empty], []⟩).memory :=
  laid_met0 os
theorem reads (os : Os) {H : Type} (enc : TypeId × Value → H) : ∃ places, DataW.whole enc Tryd.prog ((laidWorld os).forCall (fun _ _ => 0) ⟨#[], #[.string ByteArray.empty], []⟩).memory Tryd.f7.params.toList Rows.csvBackSpec.vars false (#[.string ByteArray.empty] : Array Value).toList 8 = some ([.lit (.string [])], [], places) :=
  ⟨[], by kernel_rfl⟩

set_option maxRecDepth 100000 in
theorem lifted (os : Os) (started : os.Started) (H : Type) (enc : TypeId × Value → H) (F : Stop.Interp) :
    ReturnsInHanded {} Tryd.checked os 7 .any ((Rows.OpenSpec.upto Rows.csvBackSpec).preRow enc Tryd.prog Tryd.f7 Rows.csvBackUptoRow.domain false Rows.csvBackUptoRow.laid) (((Rows.OpenSpec.upto Rows.csvBackSpec).at F).post enc Tryd.prog Tryd.f7 false true false false) := by
  obtain ⟨places, hx⟩ := reads os enc
  refine returnsInHanded_of_row (C := Tryd.checked) (s := (Rows.OpenSpec.upto Rows.csvBackSpec)) own started (by kernel_rfl) Tryd.func7
    (witness_row_at (enc := enc) (C := Tryd.checked) false (laidWorld os) #[.string ByteArray.empty] rfl (by kernel_rfl) (by kernel_rfl) (by kernel_rfl)
      (OpenSpec.preRow_of_cond 8 hx (by kernel_rfl) (fun k hk => by cases hk; kernel_rfl) (by kernel_rfl) (laid_met os))) ?_
  intro W base args ds gs before hval hW _ hcond hsz hL hSh _
  exact contract H enc W base args ds gs before hval hW (hcond _ rfl) hsz hL hSh

theorem said : Rows.CsvBackUptoSaid :=
  OpenClaim.holds_of_cond 7 Tryd.f7 rfl rfl rfl rfl rfl rfl rfl ⟨rfl, rfl, rfl, rfl, rfl⟩ rfl rfl rfl rfl rfl (by kernel_rfl) Tryd.func7 (by kernel_rfl)
    (of_decide_eq_true (by kernel_rfl)) (by unfold Func.isWrapper; rw [if_neg (of_decide_eq_false (by kernel_rfl))]; exact ⟨rfl, rfl⟩)
    (fun os started H enc _ F => by rw [OpenClaim.pre_eq_preRow]; exact lifted os started H enc F)

theorem noStandIn : ∀ t ∈ ([9] : List TypeId), Tryd.prog.wantsStandIn t = false := by
  intro t ht
  simp only [List.mem_cons, List.not_mem_nil, or_false] at ht
  rcases ht with rfl
  · exact (show Tryd.prog.wantsStandIn 9 = false by kernel_rfl)
theorem plain (f : FuncId) (fn : Func) (hf : Tryd.pinned.checked.prog.funcNamed "satchel/satchellaw21.CsvBack" = some f) (hfn : Tryd.pinned.checked.prog.funcs[f]? = some fn) :
    false = Tryd.pinned.checked.prog.looks [] ∧ ∀ (j : Nat) t, fn.params[j]? = some t → Tryd.pinned.checked.prog.wantsStandIn t = false := by
  obtain rfl : f = 7 := Option.some.inj ((show Tryd.prog.funcNamed "satchel/satchellaw21.CsvBack" = some 7 by kernel_rfl).symm.trans hf) |>.symm
  obtain rfl : fn = Tryd.f7 := (Option.some.inj (Tryd.func7.symm.trans hfn)).symm
  refine ⟨by kernel_rfl, fun j t ht => ?_⟩
  rw [Tryd.params7] at ht
  exact noStandIn t (by simpa using Array.mem_of_getElem? ht)

/-- THE CARD -/
theorem proved : Rows.CsvBackUptoCardSaid :=
  Claim7.holds_tied_plain_at .later [] _ _ _ _ said (fun _ h => by cases h) (by kernel_rfl) (fun _ h => by cases h) csvBackUpto_row_tie rfl ⟨rfl, rfl⟩ (by kernel_rfl) rfl plain (by kernel_rfl)
end Go.Proofs.YtmdljfpkbfhbdaaDoor.csvBack
