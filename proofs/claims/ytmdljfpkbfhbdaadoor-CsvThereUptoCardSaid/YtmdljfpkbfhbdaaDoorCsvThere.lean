/- Rows, of bulk at most 1048576, that are printed are read again, whatever bytes their fields have; a row of no field is refused. utf8's tables stand as the program's text lays them (the card ties them; no walk reads them). -/
import Derived.Test.YtmdljfpkbfhbdaaDoorOpen
import Derived.Test.YtmdljfpkbfhbdaaDoorCards
import Derived.Test.YtmdljfpkbfhbdaaDoorTie
import Derived.Deep.DeepHandedRow
import Derived.Lib.LaidTab
import Derived.Test.YtmdljfpkbfhbdaaDoorBulk
import Derived.Deep.CondSized
import Derived.Test.YtmdljfpkbfhbdaaDoorCsLaw
import Derived.Test.YtmdljfpkbfhbdaaDoorCsOpen
import Derived.Test.YtmdljfpkbfhbdaaDoorCsLaid
namespace Go.Proofs.YtmdljfpkbfhbdaaDoor.csvThere
open Go.ChangeShapes Go.WideShapes Go.ChangeAt Go.RowKit
open Go.ChangeMaps (open_string shut_string)
set_option linter.unusedVariables false
set_option linter.unusedSimpArgs false

set_option maxRecDepth 100000 in
set_option maxHeartbeats 1000000 in
theorem walk (w : World) (hM : MW w) {A : Option Addr} {X : List Rq} {c : Nat} (hx : RsR w w.heap.size A X ∧ X.length ≤ c ∧ c ≤ maxLen ∧ RFew X) :
    Calls Tryd.prog 6 #[.slice A X.length c] w fun e w' => e = .returned (.bool true) ∧ Below w.heap.size w w' := by
  obtain ⟨hr, hlc, hcm, hf1, hf2⟩ := hx
  have HM := Lib.hid hM
  have HR := Lib.hid hr
  have HF1 : Hid (rowsW (rowsOf X) ≤ 1073741824) := Lib.hid (by omega)
  have HC : Hid (X.length ≤ c ∧ c ≤ maxLen ∧ X.length ≤ 1048576) := Lib.hid ⟨hlc, hcm, hf2⟩
  clear hr hlc hcm hf1 hf2
  have HSP := Lib.hid (speaks21_any w hM)
  clear hM
  have hnm : X.length ≤ 1048576 := HC.out.2.2
  go_enter Tryd.func6, Tryd.ntmps6
  go_wp2_with fail
  refine HSP.out.mono ?_
  rintro e w1 ⟨rfl, hb1⟩
  have HB1 := Lib.hid hb1
  have HCP : Hid (Calls Tryd.prog 11 #[.slice A X.length c] w1 fun e w' => ∃ A' c' Y, e = .returned (.slice A' X.length c') ∧ Y.length = X.length ∧ rowsOf Y = rowsOf X ∧ St Zf [RwsA (.slice A' X.length c') Y] w1 w') := Lib.hid
    (Copy_w A c _ X w1 (HR.out.below hb1 (Nat.le_refl _)) hb1.size HC.out.1 HF1.out)
  have HPR : Hid (∀ A' c' Y w2, St Zf [RwsA (.slice A' X.length c') Y] w1 w2 → Y.length = X.length → rowsOf Y = rowsOf X → Calls Tryd.prog 12 #[.slice A' X.length c'] w2 fun e w' => e = .returned (.tuple #[.string (prS (rowsOf X)), .int .i64 (prE (rowsOf X))]) ∧ Below w.heap.size w w') := Lib.hid (by
    intro A' c' Y w2 h hl hY
    obtain ⟨-, hy1, hy2, hy3⟩ := h.rws
    have hb : Below w.heap.size w w2 := HB1.out.trans (h.bel.mono HB1.out.size)
    have h2 := Print_any A' c' _ Y w2 (HM.out.below hb HM.out.pos) hy3 (Nat.le_refl _) (by rw [hl]; exact hy1) hy2 (by rw [hY]; exact HF1.out)
    rw [hl, hY] at h2
    exact h2.mono fun e w' ⟨h3, h4⟩ => ⟨h3, hb.trans (h4.mono hb.size)⟩)
  clear hb1 HSP
  go_wp2
  go_loopw [14] (fun i wr => ∃ k : Nat, k ≤ X.length ∧ i = .int .i64 k ∧ Hid (∀ r ∈ rowsOf (X.take k), r ≠ []) ∧ wr = w1) (fun i _ => X.length - (intOf i).toNat)
  case atStart => exact ⟨0, Nat.zero_le _, rfl, Lib.hid (by simp), rfl⟩
  case round =>
    obtain ⟨k, hk, rfl, HN, rfl⟩ := hrel
    by_cases hlt : k < X.length
    · have hrs := HR.out.below HB1.out (Nat.le_refl _)
      obtain ⟨b, off, rfl, hb, hcell⟩ := hrs.1.allD (by omega)
      have q := hcell k hlt
      have HTK : Hid (rowsOf (X.take (k + 1)) = rowsOf (X.take k) ++ [(nthD X k).L]) := Lib.hid (by rw [takeD_succ hlt]; simp)
      have HME : Hid ((nthD X k).L ∈ rowsOf X) := Lib.hid (List.mem_map.2 ⟨_, nthD_mem hlt, rfl⟩)
      clear hcell hrs
      generalize nthD X k = x at *
      obtain ⟨A1, c1, L1⟩ := x
      simp only [Rq.v] at q HTK HME
      by_cases h0 : L1.length = 0
      · have HPE : Hid (prE (rowsOf X) = 2) := Lib.hid (prE_bad HME.out h0)
        rw [HPE.out] at HPR
        rw [h0] at q
        clear h0 HTK HME
        go_wp2_with fail
        refine HCP.out.mono ?_
        rintro e w2 ⟨A2, c2, Y, rfl, hl, hY, h2⟩
        have HPX := Lib.hid (HPR.out A2 c2 Y w2 h2 hl hY)
        clear hl hY h2
        go_wp2_with fail
        refine HPX.out.mono ?_
        rintro e w3 ⟨rfl, hb3⟩
        have HB3 := Lib.hid hb3
        clear hb3
        go_wp2
        go_ret
        exact ⟨rfl, HB3.out⟩
      · have HN' : Hid (∀ r ∈ rowsOf (X.take (k + 1)), r ≠ []) := Lib.hid (by
          intro r hr
          rw [HTK.out] at hr
          rcases List.mem_append.1 hr with hr | hr
          · exact HN.out r hr
          · rw [List.mem_singleton.1 hr]
            intro e
            exact h0 (by rw [e]; rfl))
        have h0' : ((L1.length : Int) == 0) = false := by rw [beq_eq_false_iff_ne]; omega
        have h0'' : (L1.length == 0) = false := by rw [beq_eq_false_iff_ne]; omega
        clear h0
        go_wp2
        go_roundw
        case rel => exact ⟨k + 1, by omega, by go_num, HN', by first | rfl | trivial⟩
        case measure => simp [intOf]; omega
    · have HTK : Hid (X.take k = X) := Lib.hid (List.take_of_length_le (by omega))
      rw [HTK.out] at HN
      have hpo := print_ok HN.out
      rw [hpo.1, hpo.2] at HPR
      have hbk := parse_back HN.out
      have HSZ : Hid ((mkS (rowsT (rowsOf X))).size ≤ 1073741824) := Lib.hid (by
        have h1 := rowsT_len (rowsOf X)
        have h2 := HF1.out
        rw [mkS_size]
        omega)
      have HPS := Lib.hid fun w => Parse_w (mkS (rowsT (rowsOf X))) w HSZ.out
      rw [hbk.1, hbk.2] at HPS
      clear hpo hbk HSZ
      generalize mkS (rowsT (rowsOf X)) = S at HPR HPS
      go_wp2_with fail
      refine HCP.out.mono ?_
      rintro e w2 ⟨A2, c2, Y, rfl, hl, hY, h2⟩
      have HPX := Lib.hid (HPR.out A2 c2 Y w2 h2 hl hY)
      clear hl hY h2
      go_wp2_with fail
      refine HPX.out.mono ?_
      rintro e w3 ⟨rfl, hb3⟩
      have H3 := Lib.hid ((St.start Zf w).below hb3)
      clear hb3
      go_wp2_with fail
      refine (HPS.out _).mono ?_
      rintro e w4 ⟨A4, c4, Z, m, rfl, hm, hZ, h4⟩
      have h5 := H3.out.addStL h4
      obtain ⟨-, -, -, hr1⟩ := h5.rws
      have hsm := Same_w A4 A c4 c _ _ Z X w4 hr1 (HR.out.below h5.bel (Nat.le_refl _)) (by rw [hZ]; exact HF1.out) HF1.out
      rw [hm, decide_eq_true hZ] at hsm
      have HSM := Lib.hid hsm
      have HB := Lib.hid h5.bel
      clear h4 h5 hm hZ hr1 hsm
      go_wp2_with fail
      refine HSM.out.mono ?_
      rintro e w6 ⟨rfl, k6, rfl⟩
      go_wp2
      go_ret
      exact ⟨rfl, below_drewN HB.out _⟩

/-! ### THE ROW's STEP -/
theorem own : ownKnob Tryd.prog.godebug = none := by kernel_rfl
theorem laidOut : laidOutB Tryd.prog = true := by kernel_rfl

set_option maxRecDepth 100000 in
theorem contract (H : Type) (enc : TypeId × Value → H) (W : World) (base : Nat) (args : Array Value) (ds gs : List (DataW H)) (before : List MemPlace)
    (hval0 : ∀ (j : Nat) t v, Tryd.f6.params[j]? = some t → args[j]? = some v → Value.okWide Tryd.prog W .any base t v)
    (hW : DataW.Whole enc Tryd.prog Tryd.f6.params.toList Rows.csvThereSpec.vars false W args.toList ds gs before)
    (hk : Rows.uptoSmall H (ds ++ gs) = true)
    (hsz : (DataW.weightsEach Tryd.prog (Tryd.f6.params.toList ++ (Rows.OpenSpec.upto Rows.csvThereSpec).bare.plain.varTypes Tryd.prog) (ds ++ gs)).all (· ≤ reachBytes) = true) (hL : laidMetH Tryd.prog Rows.csvThereUptoRow.laid W) (hSh : W.ShapedOpen Tryd.prog) :
    Calls Tryd.prog 6 args W fun e W' => ∃ v, e = .returned v ∧ Rows.csvThereSpec.post enc Tryd.prog Tryd.f6 false true false false W args v W' := by
  have hval : ∀ (j : Nat) t v, Tryd.f6.params[j]? = some t → args[j]? = some v → Value.okWide Tryd.prog W .any base t v := hval0
  have hW' := hW
  obtain ⟨p, q, hA0, hV, rfl, hfz, hnd⟩ := hW
  have hA : DataW.TrodAll enc Tryd.prog W 0 (fun _ => true) true Tryd.f6.params.toList args.toList ds p := hA0
  rw [Tryd.params6] at hA hval
  obtain ⟨v0, vs0, d0, ds0, p0, q0, hargs, rfl, rfl, h0, r0⟩ := trodAll_cons hA
  obtain ⟨rfl, rfl, rfl⟩ := trodAll_nil r0
  obtain rfl : args = #[v0] := by cases args; simp_all
  obtain ⟨rfl, rfl⟩ := trodVars_none hV
  have k0 := h0
  have lt0 : ∀ x ∈ p0, x.block < W.heap.size := by obtain ⟨m, hm⟩ := k0; exact DataW.trod_lt m _ _ _ hm
  have w0 := reach_at hsz (j := 0) rfl rfl
  have u0 : Rows.uptoBulk d0 ≤ 1048576 := bulk_at hk (by simp)
  clear hA0 hval0 hsz
  obtain ⟨A0, X0, c0, rfl, hx0⟩ := open_csvrows (hval 0 _ v0 rfl rfl) w0 h0 lt0 u0
  refine (walk W (mw_of hSh) hx0).mono fun e W' ⟨he, bel⟩ => ?_
  subst he
  exact ⟨_, rfl, _, _, _, [], _, [], hW', trodAll_mk1 (shut_bool Tryd.underlying4 _), (trodAll_cons_mk (Below.trod laidOut (by kernel_rfl) (of_decide_eq_true (by kernel_rfl)) k0 bel lt0) trodAll_mk0), rfl, bel.frame _, fun h => by cases h⟩

theorem laid_met (os : Os) : laidMet Tryd.prog Rows.csvThereUptoRow.laid ((laidWorld os).forCall (fun _ _ => 0) ⟨#[], #[.slice none 0 0], []⟩).memory :=
  laid_met0 os
theorem reads (os : Os) {H : Type} (enc : TypeId × Value → H) : ∃ places, DataW.whole enc Tryd.prog ((laidWorld os).forCall (fun _ _ => 0) ⟨#[], #[.slice none 0 0], []⟩).memory Tryd.f6.params.toList Rows.csvThereSpec.vars false (#[.slice none 0 0] : Array Value).toList 8 = some ([.nil], [], places) :=
  ⟨[], by kernel_rfl⟩

set_option maxRecDepth 100000 in
theorem lifted (os : Os) (started : os.Started) (H : Type) (enc : TypeId × Value → H) (F : Stop.Interp) :
    ReturnsInHanded {} Tryd.checked os 6 .any ((Rows.OpenSpec.upto Rows.csvThereSpec).preRow enc Tryd.prog Tryd.f6 Rows.csvThereUptoRow.domain false Rows.csvThereUptoRow.laid) (((Rows.OpenSpec.upto Rows.csvThereSpec).at F).post enc Tryd.prog Tryd.f6 false true false false) := by
  obtain ⟨places, hx⟩ := reads os enc
  refine returnsInHanded_of_row (C := Tryd.checked) (s := (Rows.OpenSpec.upto Rows.csvThereSpec)) own started (by kernel_rfl) Tryd.func6
    (witness_row_at (enc := enc) (C := Tryd.checked) false (laidWorld os) #[.slice none 0 0] rfl (by kernel_rfl) (by kernel_rfl) (by kernel_rfl)
      (OpenSpec.preRow_of_cond 8 hx (by kernel_rfl) (fun k hk => by cases hk; kernel_rfl) (by kernel_rfl) (laid_met os))) ?_
  intro W base args ds gs before hval hW _ hcond hsz hL hSh _
  exact contract H enc W base args ds gs before hval hW (hcond _ rfl) hsz hL hSh

theorem said : Rows.CsvThereUptoSaid :=
  OpenClaim.holds_of_cond 6 Tryd.f6 rfl rfl rfl rfl rfl rfl rfl ⟨rfl, rfl, rfl, rfl, rfl⟩ rfl rfl rfl rfl rfl (by kernel_rfl) Tryd.func6 (by kernel_rfl)
    (of_decide_eq_true (by kernel_rfl)) (by unfold Func.isWrapper; rw [if_neg (of_decide_eq_false (by kernel_rfl))]; exact ⟨rfl, rfl⟩)
    (fun os started H enc _ F => by rw [OpenClaim.pre_eq_preRow]; exact lifted os started H enc F)

theorem noStandIn : ∀ t ∈ ([22] : List TypeId), Tryd.prog.wantsStandIn t = false := by
  intro t ht
  simp only [List.mem_cons, List.not_mem_nil, or_false] at ht
  rcases ht with rfl
  · exact (show Tryd.prog.wantsStandIn 22 = false by kernel_rfl)
theorem plain (f : FuncId) (fn : Func) (hf : Tryd.pinned.checked.prog.funcNamed "satchel/satchellaw21.CsvThere" = some f) (hfn : Tryd.pinned.checked.prog.funcs[f]? = some fn) :
    false = Tryd.pinned.checked.prog.looks [] ∧ ∀ (j : Nat) t, fn.params[j]? = some t → Tryd.pinned.checked.prog.wantsStandIn t = false := by
  obtain rfl : f = 6 := Option.some.inj ((show Tryd.prog.funcNamed "satchel/satchellaw21.CsvThere" = some 6 by kernel_rfl).symm.trans hf) |>.symm
  obtain rfl : fn = Tryd.f6 := (Option.some.inj (Tryd.func6.symm.trans hfn)).symm
  refine ⟨by kernel_rfl, fun j t ht => ?_⟩
  rw [Tryd.params6] at ht
  exact noStandIn t (by simpa using Array.mem_of_getElem? ht)

/-- THE CARD -/
theorem proved : Rows.CsvThereUptoCardSaid :=
  Claim7.holds_tied_plain_at .later [] _ _ _ _ said (fun _ h => by cases h) (by kernel_rfl) (fun _ h => by cases h) csvThereUpto_row_tie rfl ⟨rfl, rfl⟩ (by kernel_rfl) rfl plain (by kernel_rfl)
end Go.Proofs.YtmdljfpkbfhbdaaDoor.csvThere
