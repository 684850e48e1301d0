/- A text that ends with a line's end, and another one behind it, each of bulk at most 1048576 together, are read as the rows of both. utf8's tables stand as the program's text lays them (the card ties them; no walk reads them). -/
import Derived.Test.YtmdljfpkbfhbdaaDoorOpen
import Derived.Test.YtmdljfpkbfhbdaaDoorCards
import Derived.Test.YtmdljfpkbfhbdaaDoorTie
import Derived.Deep.DeepHandedRow
import Derived.Lib.LaidTab
import Derived.Test.YtmdljfpkbfhbdaaDoorBulk
import Derived.Deep.CondSized
import Derived.Test.YtmdljfpkbfhbdaaDoorCsJoin
import Derived.Test.YtmdljfpkbfhbdaaDoorCsOpen
import Derived.Test.YtmdljfpkbfhbdaaDoorCsLaid
namespace Go.Proofs.YtmdljfpkbfhbdaaDoor.csvJoins
open Go.ChangeShapes Go.WideShapes Go.ChangeAt Go.RowKit
open Go.ChangeMaps (open_string shut_string)
set_option linter.unusedVariables false
set_option linter.unusedSimpArgs false

set_option maxRecDepth 100000 in
set_option maxHeartbeats 1000000 in
theorem walk (w : World) (hM : MW w) {a : ByteArray} (hx0 : a.size ≤ 1048576) {b : ByteArray} (hx1 : b.size ≤ 1048576) :
    Calls Tryd.prog 8 #[.string a, .string b] w fun e w' => e = .returned (.bool true) ∧ Below w.heap.size w w' := by
  have HX0 := Lib.hid hx0
  have HX1 := Lib.hid hx1
  have HSP := Lib.hid (speaks21_any w hM)
  have HPA := Lib.hid fun w => Parse_w a w (by omega)
  have HPB := Lib.hid fun w => Parse_w b w (by omega)
  have hab : (a ++ b).size ≤ 2097152 := by
    rw [← lS_len, lS_app, List.length_append, lS_len, lS_len]
    omega
  have HPC := Lib.hid fun w => Parse_w (a ++ b) w (by omega)
  have HWA : Hid (rowsW (rowsP a) ≤ 8388608) := Lib.hid (by have := rowsP_weight a; omega)
  have HWB : Hid (rowsW (rowsP b) ≤ 8388608) := Lib.hid (by have := rowsP_weight b; omega)
  have HWC : Hid (rowsW (rowsP (a ++ b)) ≤ 1073741824) := Lib.hid (by have := rowsP_weight (a ++ b); omega)
  clear hM hab
  by_cases hE : errP a = 0
  · obtain ⟨n, hn⟩ : ∃ n, n = a.size := ⟨_, rfl⟩
    have hsz : a.size = n := hn.symm
    by_cases h2 : n < 2
    · have d1 : decide ((n : Int) < 2) = true := decide_eq_true (by omega)
      have d1' : decide (n < 2) = true := decide_eq_true h2
      rw [hE] at HPA
      clear hn hE
      go_enter Tryd.func8, Tryd.ntmps8
      go_wp2_with fail
      refine HSP.out.mono ?_
      rintro e w1 ⟨rfl, hb1⟩
      have HB1 := Lib.hid hb1
      clear hb1
      go_wp2_with fail
      refine (HPA.out _).mono ?_
      rintro e w2 ⟨A, c, X, nx, rfl, hnx, hX, h3⟩
      have HB2 := Lib.hid (HB1.out.trans (h3.bel.mono HB1.out.size))
      clear h3 hnx hX
      go_wp2
      go_ret
      exact ⟨rfl, HB2.out⟩
    · obtain ⟨m, hm⟩ : ∃ m, n = m + 2 := ⟨n - 2, by omega⟩
      have hsub : (n : Int) - 2 = (m : Int) := by omega
      have hmn : (m : Int) ≤ (n : Int) := by omega
      have hm0 : (0 : Int) ≤ (m : Int) := by omega
      have d1 : decide ((n : Int) < 2) = false := decide_eq_false (by omega)
      have d1' : decide (n < 2) = false := decide_eq_false h2
      have HEX : Hid (a.extract m n = mkS ((lS a).drop m)) := Lib.hid (by
        have h := mkS_drop (lS a) m
        rw [mk_lS, hsz] at h
        exact h)
      obtain ⟨T, hT⟩ : ∃ T, T = a.extract m n := ⟨_, rfl⟩
      by_cases ht : T.toList = [13, 10]
      · have hte : (T.toList == [13, 10]) = true := by rw [ht]; rfl
        have hlast : (lS a).getLast? = some 10 := by
          refine last10 (m := m) ?_
          rw [hT, HEX.out, ByteArray.toList_eq] at ht
          exact ht
        obtain ⟨hj1, hj2⟩ := join_parse (b := b) hE hlast
        have HT := Lib.hid hT.symm
        rw [hE] at HPA
        rw [hj1] at HPC
        have HJ2 := Lib.hid hj2
        clear hn hE hT ht hlast hj1 hj2 hm h2
        by_cases hF : errP b = 0
        · have HJ3 : Hid (rowsP (a ++ b) = rowsP a ++ rowsP b) := Lib.hid (by rw [HJ2.out, if_pos hF])
          rw [hF] at HPB HPC
          clear hF HJ2
          obtain ⟨i0, z0, hi0, hz0, hz1, hz2, hz3⟩ := row_info rws_info
          go_enter Tryd.func8, Tryd.ntmps8
          go_wp2_with fail
          refine HSP.out.mono ?_
          rintro e w1 ⟨rfl, hb1⟩
          have H1 := Lib.hid ((St.start Zf w).below hb1)
          clear hb1
          go_wp2_with fail
          refine (HPA.out _).mono ?_
          rintro e w2 ⟨A, c, X, nx, rfl, hnx, hX, h2⟩
          have H2 := Lib.hid (H1.out.addStL h2)
          have HNX := Lib.hid hnx
          have HXR := Lib.hid hX
          have hTT := HT.out
          clear h2 hnx hX
          go_wp2_with fail
          refine (HPB.out _).mono ?_
          rintro e w3 ⟨A3, c3, Y, ny, rfl, hny, hY, h3⟩
          have H3 := Lib.hid (H2.out.addStL h3)
          have HNY := Lib.hid hny
          have HYR := Lib.hid hY
          clear h3 hny hY
          go_wp2_with fail
          refine (HPC.out _).mono ?_
          rintro e w4 ⟨A4, c4, Z, nz, rfl, hnz, hZ, h4⟩
          have h5 := H3.out.addStL h4
          have HNZ := Lib.hid hnz
          have HZR := Lib.hid hZ
          have HN := Lib.hid (h5.newNil Rq.v 40 rfl)
          have hcx : X.length ≤ 8388608 := by
            have h1 := rows_few (rowsOf X)
            rw [HXR.out] at h1
            have h2 := HWA.out
            have h3 : X.length = (rowsP a).length := by rw [← HXR.out, List.length_map]
            omega
          have hcy : Y.length ≤ 8388608 := by
            have h1 := rows_few (rowsOf Y)
            rw [HYR.out] at h1
            have h2 := HWB.out
            have h3 : Y.length = (rowsP b).length := by rw [← HYR.out, List.length_map]
            omega
          have hb1 : (([] : List Rq).length + nx) * 24 ≤ 140737488355328 := by have := HNX.out; simp; omega
          have hb2 : (X.length + ny) * 24 ≤ 140737488355328 := by have := HNY.out; omega
          have HRX : Hid (RL Rq.v (w4.alloc (.cells #[] 40)) (w4.alloc (.cells #[] 40)).heap.size A X) := Lib.hid (HN.out.drop.drop.drop.rws).2.2.2.1
          clear h4 h5 hnz hZ hcx hcy
          go_wp2_with (first
            | (at_builtin; refine wpList_append_listG _ _ _ 22 rfl 0 40 i0 z0 24 Tryd.underlying22 hi0 hz0 hz1 hz2 hz3 _ ([] : List Rq) (by rfl) HN.out.ol A c _ X nx HNX.out (by rfl) HRX.out hb1 (by omega) (Nat.zero_le _) (by rfl) ?_; intro v7 w7 hown7 hg7 hat7; have h7 := HN.out.grewOl hown7 hg7 hat7 (Nat.le_refl _); rw [List.nil_append] at hown7 h7; have HRY : Hid (RL Rq.v w7 w7.heap.size A3 Y) := Lib.hid (h7.drop.drop.rws).2.2.2.1; have H7 := Lib.hid h7; clear hown7 hg7 hat7 h7)
            | (at_builtin; refine wpList_append_listG _ _ _ 22 rfl 0 40 i0 z0 24 Tryd.underlying22 hi0 hz0 hz1 hz2 hz3 _ X (by rfl) H7.out.ol A3 c3 _ Y ny HNY.out (by rfl) HRY.out hb2 (by omega) (Nat.zero_le _) (by rfl) ?_; intro v8 w8 hown8 hg8 hat8; have h8 := H7.out.grewOl hown8 hg8 hat8 (Nat.le_refl _); obtain ⟨O, hO⟩ : ∃ O, O = X ++ Y := ⟨_, rfl⟩; rw [← hO] at hown8 h8; obtain ⟨A8, c8, rfl, -, -, -, -⟩ := hown8.form; have H8 := Lib.hid h8; have HO := Lib.hid hO; clear hown8 hg8 hat8 h8 hO))
          have hrO : RsR w8 w8.heap.size A8 O := by
            refine ⟨H8.out.ol.reads.2.1, fun q hq => ?_⟩
            rw [HO.out] at hq
            rcases List.mem_append.1 hq with hq | hq
            · exact (H8.out.drop.drop.drop.rws).2.2.2.2 q hq
            · exact (H8.out.drop.drop.rws).2.2.2.2 q hq
          have hOR : rowsOf O = rowsP (a ++ b) := by
            rw [HJ3.out, ← HXR.out, ← HYR.out, HO.out]
            simp
          have hsm := Same_w A4 A8 c4 c8 _ _ Z O w8 (H8.out.drop.rws).2.2.2 hrO (by rw [HZR.out]; exact HWC.out) (by rw [hOR]; exact HWC.out)
          rw [HNZ.out, decide_eq_true (HZR.out.trans hOR.symm)] at hsm
          have HSM := Lib.hid hsm
          have HB := Lib.hid H8.out.bel
          clear hrO hOR hsm
          go_wp2_with fail
          refine HSM.out.mono ?_
          rintro e w9 ⟨rfl, k9, rfl⟩
          go_wp2
          go_ret
          exact ⟨rfl, below_drewN HB.out _⟩
        · have HEM : Hid (rowsP (a ++ b) = []) := Lib.hid (by rw [HJ2.out, if_neg hF])
          have hFb : (errP b != 0) = true := by rw [bne_iff_ne]; exact hF
          clear hF HJ2
          generalize errP b = F at *
          have hFF : (F == F) = true := beq_self_eq_true _
          go_enter Tryd.func8, Tryd.ntmps8
          go_wp2_with fail
          refine HSP.out.mono ?_
          rintro e w1 ⟨rfl, hb1⟩
          have H1 := Lib.hid ((St.start Zf w).below hb1)
          clear hb1
          go_wp2_with fail
          refine (HPA.out _).mono ?_
          rintro e w2 ⟨A, c, X, nx, rfl, hnx, hX, h2⟩
          have H2 := Lib.hid (H1.out.addStL h2)
          have HNX := Lib.hid hnx
          have HXR := Lib.hid hX
          have hTT := HT.out
          clear h2 hnx hX
          go_wp2_with fail
          refine (HPB.out _).mono ?_
          rintro e w3 ⟨A3, c3, Y, ny, rfl, hny, hY, h3⟩
          have H3 := Lib.hid (H2.out.addStL h3)
          have HNY := Lib.hid hny
          have HYR := Lib.hid hY
          clear h3 hny hY
          go_wp2_with fail
          refine (HPC.out _).mono ?_
          rintro e w4 ⟨A4, c4, Z, nz, rfl, hnz, hZ, h4⟩
          have hz0 : nz = 0 := by
            rw [HEM.out] at hZ
            have h := congrArg List.length hZ
            rw [List.length_map, hnz] at h
            exact h
          subst hz0
          have HB4 := Lib.hid (H3.out.bel.trans (h4.bel.mono H3.out.size))
          clear hZ hnz h4
          go_wp2
          go_ret
          exact ⟨rfl, HB4.out⟩
      · have hte : (T.toList == [13, 10]) = false := by rw [beq_eq_false_iff_ne]; exact ht
        have HT := Lib.hid hT.symm
        rw [hE] at HPA
        clear hn hE hT ht hm h2
        go_enter Tryd.func8, Tryd.ntmps8
        go_wp2_with fail
        refine HSP.out.mono ?_
        rintro e w1 ⟨rfl, hb1⟩
        have HB1 := Lib.hid hb1
        clear hb1
        go_wp2_with fail
        refine (HPA.out _).mono ?_
        rintro e w2 ⟨A, c, X, nx, rfl, hnx, hX, h3⟩
        have HB2 := Lib.hid (HB1.out.trans (h3.bel.mono HB1.out.size))
        have hTT := HT.out
        clear h3 hnx hX
        go_wp2
        go_ret
        exact ⟨rfl, HB2.out⟩
  · have hEb : (errP a != 0) = true := by rw [bne_iff_ne]; exact hE
    clear hE
    generalize errP a = E at *
    go_enter Tryd.func8, Tryd.ntmps8
    go_wp2_with fail
    refine HSP.out.mono ?_
    rintro e w1 ⟨rfl, hb1⟩
    have HB1 := Lib.hid hb1
    clear hb1
    go_wp2_with fail
    refine (HPA.out _).mono ?_
    rintro e w2 ⟨A, c, X, nx, rfl, hnx, hX, h3⟩
    have HB2 := Lib.hid (HB1.out.trans (h3.bel.mono HB1.out.size))
    clear h3 hnx hX
    go_wp2
    go_ret
    exact ⟨rfl, HB2.out⟩

/-! ### THE ROW's STEP -/
theorem own : ownKnob Tryd.prog.godebug = none := by kernel_rfl
theorem laidOut : laidOutB Tryd.prog = true := by kernel_rfl

set_option maxRecDepth 100000 in
theorem contract (H : Type) (enc : TypeId × Value → H) (W : World) (base : Nat) (args : Array Value) (ds gs : List (DataW H)) (before : List MemPlace)
    (hval0 : ∀ (j : Nat) t v, Tryd.f8.params[j]? = some t → args[j]? = some v → Value.okWide Tryd.prog W .any base t v)
    (hW : DataW.Whole enc Tryd.prog Tryd.f8.params.toList Rows.csvJoinsSpec.vars false W args.toList ds gs before)
    (hk : Rows.uptoSmall H (ds ++ gs) = true)
    (hsz : (DataW.weightsEach Tryd.prog (Tryd.f8.params.toList ++ (Rows.OpenSpec.upto Rows.csvJoinsSpec).bare.plain.varTypes Tryd.prog) (ds ++ gs)).all (· ≤ reachBytes) = true) (hL : laidMetH Tryd.prog Rows.csvJoinsUptoRow.laid W) (hSh : W.ShapedOpen Tryd.prog) :
    Calls Tryd.prog 8 args W fun e W' => ∃ v, e = .returned v ∧ Rows.csvJoinsSpec.post enc Tryd.prog Tryd.f8 false true false false W args v W' := by
  have hval : ∀ (j : Nat) t v, Tryd.f8.params[j]? = some t → args[j]? = some v → Value.okWide Tryd.prog W .any base t v := hval0
  have hW' := hW
  obtain ⟨p, q, hA0, hV, rfl, hfz, hnd⟩ := hW
  have hA : DataW.TrodAll enc Tryd.prog W 0 (fun _ => true) true Tryd.f8.params.toList args.toList ds p := hA0
  rw [Tryd.params8] at hA hval
  obtain ⟨v0, vs0, d0, ds0, p0, q0, hargs, rfl, rfl, h0, r0⟩ := trodAll_cons hA
  obtain ⟨v1, vs1, d1, ds1, p1, q1, rfl, rfl, rfl, h1, r1⟩ := trodAll_cons r0
  obtain ⟨rfl, rfl, rfl⟩ := trodAll_nil r1
  obtain rfl : args = #[v0, v1] := by cases args; simp_all
  obtain ⟨rfl, rfl⟩ := trodVars_none hV
  have k0 := h0
  have lt0 : ∀ x ∈ p0, x.block < W.heap.size := by obtain ⟨m, hm⟩ := k0; exact DataW.trod_lt m _ _ _ hm
  have w0 := reach_at hsz (j := 0) rfl rfl
  have u0 : Rows.uptoBulk d0 ≤ 1048576 := bulk_at hk (by simp)
  have k1 := h1
  have lt1 : ∀ x ∈ p1, x.block < W.heap.size := by obtain ⟨m, hm⟩ := k1; exact DataW.trod_lt m _ _ _ hm
  have w1 := reach_at hsz (j := 1) rfl rfl
  have u1 : Rows.uptoBulk d1 ≤ 1048576 := bulk_at hk (by simp)
  clear hA0 hval0 hsz
  obtain ⟨s0, rfl, hx0⟩ := open_csvtext (hval 0 _ v0 rfl rfl) w0 h0 lt0 u0
  obtain ⟨s1, rfl, hx1⟩ := open_csvtext (hval 1 _ v1 rfl rfl) w1 h1 lt1 u1
  refine (walk W (mw_of hSh) hx0 hx1).mono fun e W' ⟨he, bel⟩ => ?_
  subst he
  exact ⟨_, rfl, _, _, _, [], _, [], hW', trodAll_mk1 (shut_bool Tryd.underlying4 _), (trodAll_cons_mk (Below.trod laidOut (by kernel_rfl) (of_decide_eq_true (by kernel_rfl)) k0 bel lt0) (trodAll_cons_mk (Below.trod laidOut (by kernel_rfl) (of_decide_eq_true (by kernel_rfl)) k1 bel lt1) trodAll_mk0)), rfl, bel.frame _, fun h => by cases h⟩

theorem laid_met (os : Os) : laidMet Tryd.prog Rows.csvJoinsUptoRow.laid ((laidWorld os).forCall (fun _ _ => 0) ⟨#[], #[.string ByteArray.empty, .string ByteArray.empty], []⟩).memory :=
  laid_met0 os
theorem reads (os : Os) {H : Type} (enc : TypeId × Value → H) : ∃ places, DataW.whole enc Tryd.prog ((laidWorld os).forCall (fun _ _ => 0) ⟨#[], #[.string ByteArray.empty, .string ByteArray.empty], []⟩).memory Tryd.f8.params.toList Rows.csvJoinsSpec.vars false (#[.string ByteArray.empty, .string ByteArray.empty] : Array Value).toList 8 = some ([.lit (.string []), .lit (.string [])], [], places) :=
  ⟨[], by kernel_rfl⟩

set_option maxRecDepth 100000 in
theorem lifted (os : Os) (started : os.Started) (H : Type) (enc : TypeId × Value → H) (F : Stop.Interp) :
    ReturnsInHanded {} Tryd.checked os 8 .any ((Rows.OpenSpec.upto Rows.csvJoinsSpec).preRow enc Tryd.prog Tryd.f8 Rows.csvJoinsUptoRow.domain false Rows.csvJoinsUptoRow.laid) (((Rows.OpenSpec.upto Rows.csvJoinsSpec).at F).post enc Tryd.prog Tryd.f8 false true false false) := by
  obtain ⟨places, hx⟩ := reads os enc
  refine returnsInHanded_of_row (C := Tryd.checked) (s := (Rows.OpenSpec.upto Rows.csvJoinsSpec)) own started (by kernel_rfl) Tryd.func8
    (witness_row_at (enc := enc) (C := Tryd.checked) false (laidWorld os) #[.string ByteArray.empty, .string ByteArray.empty] rfl (by kernel_rfl) (by kernel_rfl) (by kernel_rfl)
      (OpenSpec.preRow_of_cond 8 hx (by kernel_rfl) (fun k hk => by cases hk; kernel_rfl) (by kernel_rfl) (laid_met os))) ?_
  intro W base args ds gs before hval hW _ hcond hsz hL hSh _
  exact contract H enc W base args ds gs before hval hW (hcond _ rfl) hsz hL hSh

theorem said : Rows.CsvJoinsUptoSaid :=
  OpenClaim.holds_of_cond 8 Tryd.f8 rfl rfl rfl rfl rfl rfl rfl ⟨rfl, rfl, rfl, rfl, rfl⟩ rfl rfl rfl rfl rfl (by kernel_rfl) Tryd.func8 (by kernel_rfl)
    (of_decide_eq_true (by kernel_rfl)) (by unfold Func.isWrapper; rw [if_neg (of_decide_eq_false (by kernel_rfl))]; exact ⟨rfl, rfl⟩)
    (fun os started H enc _ F => by rw [OpenClaim.pre_eq_preRow]; exact lifted os started H enc F)

theorem noStandIn : ∀ t ∈ ([9, 9] : List TypeId), Tryd.prog.wantsStandIn t = false := by
  intro t ht
  simp only [List.mem_cons, List.not_mem_nil, or_false] at ht
  rcases ht with rfl | rfl
  · exact (show Tryd.prog.wantsStandIn 9 = false by kernel_rfl)
  · exact (show Tryd.prog.wantsStandIn 9 = false by kernel_rfl)
theorem plain (f : FuncId) (fn : Func) (hf : Tryd.pinned.checked.prog.funcNamed "satchel/satchellaw21.CsvJoins" = some f) (hfn : Tryd.pinned.checked.prog.funcs[f]? = some fn) :
    false = Tryd.pinned.checked.prog.looks [] ∧ ∀ (j : Nat) t, fn.params[j]? = some t → Tryd.pinned.checked.prog.wantsStandIn t = false := by
  obtain rfl : f = 8 := Option.some.inj ((show Tryd.prog.funcNamed "satchel/satchellaw21.CsvJoins" = some 8 by kernel_rfl).symm.trans hf) |>.symm
  obtain rfl : fn = Tryd.f8 := (Option.some.inj (Tryd.func8.symm.trans hfn)).symm
  refine ⟨by kernel_rfl, fun j t ht => ?_⟩
  rw [Tryd.params8] at ht
  exact noStandIn t (by simpa using Array.mem_of_getElem? ht)

/-- THE CARD -/
theorem proved : Rows.CsvJoinsUptoCardSaid :=
  Claim7.holds_tied_plain_at .later [] _ _ _ _ said (fun _ h => by cases h) (by kernel_rfl) (fun _ h => by cases h) csvJoinsUpto_row_tie rfl ⟨rfl, rfl⟩ (by kernel_rfl) rfl plain (by kernel_rfl)
end Go.Proofs.YtmdljfpkbfhbdaaDoor.csvJoins
