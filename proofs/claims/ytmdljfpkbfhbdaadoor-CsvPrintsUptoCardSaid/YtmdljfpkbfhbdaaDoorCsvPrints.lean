/- Any rows, of bulk at most 1048576, are printed, or refused, as the document says; they stay. utf8's tables stand as the program's text lays them (the card ties them; no walk reads them). -/
import Derived.Test.YtmdljfpkbfhbdaaDoorOpen
import Derived.Test.YtmdljfpkbfhbdaaDoorCards
import Derived.Test.YtmdljfpkbfhbdaaDoorTie
import Derived.Deep.DeepHandedRow
import Derived.Lib.LaidTab
import Derived.Test.YtmdljfpkbfhbdaaDoorBulk
import Derived.Deep.CondSized
import Derived.Test.YtmdljfpkbfhbdaaDoorCsSpeak
import Derived.Test.YtmdljfpkbfhbdaaDoorCsOpen
import Derived.Test.YtmdljfpkbfhbdaaDoorCsLaid
namespace Go.Proofs.YtmdljfpkbfhbdaaDoor.csvPrints
open Go.ChangeShapes Go.WideShapes Go.ChangeAt Go.RowKit
open Go.ChangeMaps (open_string shut_string)
set_option linter.unusedVariables false
set_option linter.unusedSimpArgs false

set_option maxRecDepth 100000 in
set_option maxHeartbeats 1000000 in
theorem walk (w : World) (hM : MW w) {A : Option Addr} {X : List Rq} {c : Nat} (hx : RsR w w.heap.size A X ∧ X.length ≤ c ∧ c ≤ maxLen ∧ RFew X) :
    Calls Tryd.prog 3 #[.slice A X.length c] w fun e w' => e = .returned (.bool true) ∧ Below w.heap.size w w' := by
  obtain ⟨hr, hlc, hcm, hf1, hf2⟩ := hx
  have HM := Lib.hid hM
  have HR := Lib.hid hr
  have HF1 : Hid (rowsW (rowsOf X) ≤ 1073741824) := Lib.hid (by omega)
  have HQL : Hid (∀ q ∈ X, q.L.length ≤ 1073741824) := Lib.hid fun q hq => by
    have h1 := row_few q.L
    have h2 := row_le (X := rowsOf X) (List.mem_map.2 ⟨q, hq, rfl⟩)
    omega
  have HC : Hid (X.length ≤ c ∧ c ≤ maxLen ∧ X.length ≤ 1048576) := Lib.hid ⟨hlc, hcm, hf2⟩
  clear hr hlc hcm hf1 hf2
  have HSP := Lib.hid (speaks21_any w hM)
  clear hM
  obtain ⟨n, hn⟩ : ∃ n, n = X.length := ⟨_, rfl⟩
  have HN := Lib.hid hn
  rw [← hn] at HC ⊢
  clear hn
  go_enter Tryd.func3, Tryd.ntmps3
  go_wp2_with fail
  refine HSP.out.mono ?_
  rintro e w1 ⟨rfl, hb1⟩
  have h1 := (St.start Zf w).below hb1
  have hcp := Copy_any A c _ X w1 (HR.out.below hb1 (Nat.le_refl _)) hb1.size (by have := HN.out; have := HC.out; omega) (by have := HN.out; have := HC.out; omega) HQL.out
  rw [← HN.out] at hcp
  have HCP := Lib.hid hcp
  have H1 := Lib.hid h1
  clear hb1 h1 hcp HSP
  go_wp2_with fail
  refine HCP.out.mono ?_
  rintro e w2 ⟨A2, c2, Y, rfl, hY, h2⟩
  have h3 := H1.out.addStL h2
  obtain ⟨-, hy1, hy2, hy3⟩ := h3.rws
  have hpr := Print_any A2 c2 _ Y w2 (HM.out.below h3.bel HM.out.pos) hy3 (Nat.le_refl _) hy1 hy2 (by rw [hY]; exact HF1.out)
  rw [hY] at hpr
  have HPR := Lib.hid hpr
  have H3 := Lib.hid h3
  have HY := Lib.hid hY
  have hYl : Y.length = n := by
    have h := congrArg List.length hY
    rw [List.length_map, List.length_map] at h
    rw [HN.out]
    exact h
  rw [hYl] at H3 ⊢
  rw [hYl] at HPR
  have HYL := Lib.hid hYl
  clear h2 h3 hy1 hy2 hy3 hpr hY hYl HCP H1
  obtain ⟨S, hS⟩ : ∃ S, S = prS (rowsOf X) := ⟨_, rfl⟩
  obtain ⟨E, hE⟩ : ∃ E, E = prE (rowsOf X) := ⟨_, rfl⟩
  rw [← hS, ← hE] at HPR
  have HS := Lib.hid hS
  have HE := Lib.hid hE
  clear hS hE
  go_wp2_with fail
  refine HPR.out.mono ?_
  rintro e w3 ⟨rfl, hb3⟩
  have h4 := H3.out.below hb3
  have hrp := refPrint_any A c _ X w3 (HR.out.below h4.bel (Nat.le_refl _)) h4.size (by have := HN.out; have := HC.out; omega) HC.out.2.1 HF1.out
  rw [← HN.out, ← HS.out, ← HE.out] at hrp
  have HRP := Lib.hid hrp
  have H4 := Lib.hid h4
  clear hb3 h4 hrp HPR H3
  go_wp2_with fail
  refine HRP.out.mono ?_
  rintro e w4 ⟨rfl, hb4⟩
  have h5 := H4.out.below hb4
  obtain ⟨-, -, -, hy5⟩ := h5.rws
  have hsm := Same_any A2 A c2 c _ _ Y X w4 hy5 (HR.out.below h5.bel (Nat.le_refl _)) (by rw [HYL.out]; have := HC.out; omega) (by rw [← HN.out]; have := HC.out; omega)
    (fun q hq => by
      have h1 : q.L ∈ rowsOf X := by
        rw [← HY.out]
        exact List.mem_map.2 ⟨q, hq, rfl⟩
      have h2 := row_few q.L
      have h3 := row_le h1
      have h4 := HF1.out
      omega)
    (fun q hq => by have := HQL.out q hq; omega)
  rw [HYL.out, ← HN.out, decide_eq_true HY.out] at hsm
  have HSM := Lib.hid hsm
  have HB5 := Lib.hid h5.bel
  have hss : (S.toList == S.toList) = true := beq_self_eq_true _
  have hee : (E == E) = true := beq_self_eq_true _
  clear hb4 h5 hy5 hsm HRP H4
  go_wp2_with fail
  refine HSM.out.mono ?_
  rintro e w5 ⟨rfl, k5, rfl⟩
  go_wp2
  go_ret
  exact ⟨rfl, below_drewN HB5.out _⟩

/-! ### THE ROW's STEP -/
theorem own : ownKnob Tryd.prog.godebug = none := by kernel_rfl
theorem laidOut : laidOutB Tryd.prog = true := by kernel_rfl

set_option maxRecDepth 100000 in
theorem contract (H : Type) (enc : TypeId × Value → H) (W : World) (base : Nat) (args : Array Value) (ds gs : List (DataW H)) (before : List MemPlace)
    (hval0 : ∀ (j : Nat) t v, Tryd.f3.params[j]? = some t → args[j]? = some v → Value.okWide Tryd.prog W .any base t v)
    (hW : DataW.Whole enc Tryd.prog Tryd.f3.params.toList Rows.csvPrintsSpec.vars false W args.toList ds gs before)
    (hk : Rows.uptoSmall H (ds ++ gs) = true)
    (hsz : (DataW.weightsEach Tryd.prog (Tryd.f3.params.toList ++ (Rows.OpenSpec.upto Rows.csvPrintsSpec).bare.plain.varTypes Tryd.prog) (ds ++ gs)).all (· ≤ reachBytes) = true) (hL : laidMetH Tryd.prog Rows.csvPrintsUptoRow.laid W) (hSh : W.ShapedOpen Tryd.prog) :
    Calls Tryd.prog 3 args W fun e W' => ∃ v, e = .returned v ∧ Rows.csvPrintsSpec.post enc Tryd.prog Tryd.f3 false true false false W args v W' := by
  have hval : ∀ (j : Nat) t v, Tryd.f3.params[j]? = some t → args[j]? = some v → Value.okWide Tryd.prog W .any base t v := hval0
  have hW' := hW
  obtain ⟨p, q, hA0, hV, rfl, hfz, hnd⟩ := hW
  have hA : DataW.TrodAll enc Tryd.prog W 0 (fun _ => true) true Tryd.f3.params.toList args.toList ds p := hA0
  rw [Tryd.params3] at hA hval
  obtain ⟨v0, vs0, d0, ds0, p0, q0, hargs, rfl, rfl, h0, r0⟩ := trodAll_cons hA
  obtain ⟨rfl, rfl, rfl⟩ := trodAll_nil r0
  obtain rfl : args = #[v0] := by cases args; simp_all
  obtain ⟨rfl, rfl⟩ := trodVars_none hV
  have k0 := h0
  have lt0 : ∀ x ∈ p0, x.block < W.heap.size := by obtain ⟨m, hm⟩ := k0; exact DataW.trod_lt m _ _ _ hm
  have w0 := reach_at hsz (j := 0) rfl rfl
  have u0 : Rows.uptoBulk d0 ≤ 1048576 := bulk_at hk (by simp)
  clear hA0 hval0 hsz
  obtain ⟨A0, X0, c0, rfl, hx0⟩ := open_csvrows (hval 0 _ v0 rfl rfl) w0 h0 lt0 u0
  refine (walk W (mw_of hSh) hx0).mono fun e W' ⟨he, bel⟩ => ?_
  subst he
  exact ⟨_, rfl, _, _, _, [], _, [], hW', trodAll_mk1 (shut_bool Tryd.underlying4 _), (trodAll_cons_mk (Below.trod laidOut (by kernel_rfl) (of_decide_eq_true (by kernel_rfl)) k0 bel lt0) trodAll_mk0), rfl, bel.frame _, fun h => by cases h⟩

theorem laid_met (os : Os) : laidMet Tryd.prog Rows.csvPrintsUptoRow.laid ((laidWorld os).forCall (fun _ _ => 0) ⟨#[], #[.slice none 0 0], []⟩).memory :=
  laid_met0 os
theorem reads (os : Os) {H : Type} (enc : TypeId × Value → H) : ∃ places, DataW.whole enc Tryd.prog ((laidWorld os).forCall (fun _ _ => 0) ⟨#[], #[.slice none 0 0], []⟩).memory Tryd.f3.params.toList Rows.csvPrintsSpec.vars false (#[.slice none 0 0] : Array Value).toList 8 = some ([.nil], [], places) :=
  ⟨[], by kernel_rfl⟩

set_option maxRecDepth 100000 in
theorem lifted (os : Os) (started : os.Started) (H : Type) (enc : TypeId × Value → H) (F : Stop.Interp) :
    ReturnsInHanded {} Tryd.checked os 3 .any ((Rows.OpenSpec.upto Rows.csvPrintsSpec).preRow enc Tryd.prog Tryd.f3 Rows.csvPrintsUptoRow.domain false Rows.csvPrintsUptoRow.laid) (((Rows.OpenSpec.upto Rows.csvPrintsSpec).at F).post enc Tryd.prog Tryd.f3 false true false false) := by
  obtain ⟨places, hx⟩ := reads os enc
  refine returnsInHanded_of_row (C := Tryd.checked) (s := (Rows.OpenSpec.upto Rows.csvPrintsSpec)) own started (by kernel_rfl) Tryd.func3
    (witness_row_at (enc := enc) (C := Tryd.checked) false (laidWorld os) #[.slice none 0 0] rfl (by kernel_rfl) (by kernel_rfl) (by kernel_rfl)
      (OpenSpec.preRow_of_cond 8 hx (by kernel_rfl) (fun k hk => by cases hk; kernel_rfl) (by kernel_rfl) (laid_met os))) ?_
  intro W base args ds gs before hval hW _ hcond hsz hL hSh _
  exact contract H enc W base args ds gs before hval hW (hcond _ rfl) hsz hL hSh

theorem said : Rows.CsvPrintsUptoSaid :=
  OpenClaim.holds_of_cond 3 Tryd.f3 rfl rfl rfl rfl rfl rfl rfl ⟨rfl, rfl, rfl, rfl, rfl⟩ rfl rfl rfl rfl rfl (by kernel_rfl) Tryd.func3 (by kernel_rfl)
    (of_decide_eq_true (by kernel_rfl)) (by unfold Func.isWrapper; rw [if_neg (of_decide_eq_false (by kernel_rfl))]; exact ⟨rfl, rfl⟩)
    (fun os started H enc _ F => by rw [OpenClaim.pre_eq_preRow]; exact lifted os started H enc F)

theorem noStandIn : ∀ t ∈ ([22] : List TypeId), Tryd.prog.wantsStandIn t = false := by
  intro t ht
  simp only [List.mem_cons, List.not_mem_nil, or_false] at ht
  rcases ht with rfl
  · exact (show Tryd.prog.wantsStandIn 22 = false by kernel_rfl)
theorem plain (f : FuncId) (fn : Func) (hf : Tryd.pinned.checked.prog.funcNamed "satchel/satchellaw21.CsvPrints" = some f) (hfn : Tryd.pinned.checked.prog.funcs[f]? = some fn) :
    false = Tryd.pinned.checked.prog.looks [] ∧ ∀ (j : Nat) t, fn.params[j]? = some t → Tryd.pinned.checked.prog.wantsStandIn t = false := by
  obtain rfl : f = 3 := Option.some.inj ((show Tryd.prog.funcNamed "satchel/satchellaw21.CsvPrints" = some 3 by kernel_rfl).symm.trans hf) |>.symm
  obtain rfl : fn = Tryd.f3 := (Option.some.inj (Tryd.func3.symm.trans hfn)).symm
  refine ⟨by kernel_rfl, fun j t ht => ?_⟩
  rw [Tryd.params3] at ht
  exact noStandIn t (by simpa using Array.mem_of_getElem? ht)

/-- THE CARD -/
theorem proved : Rows.CsvPrintsUptoCardSaid :=
  Claim7.holds_tied_plain_at .later [] _ _ _ _ said (fun _ h => by cases h) (by kernel_rfl) (fun _ h => by cases h) csvPrintsUpto_row_tie rfl ⟨rfl, rfl⟩ (by kernel_rfl) rfl plain (by kernel_rfl)
end Go.Proofs.YtmdljfpkbfhbdaaDoor.csvPrints
