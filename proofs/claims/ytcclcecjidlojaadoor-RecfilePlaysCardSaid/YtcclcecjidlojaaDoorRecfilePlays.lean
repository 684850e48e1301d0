/- Every call of any script on a record file answers exactly as the document says, and its bytes are the document's. -/
import Derived.Test.YtcclcecjidlojaaDoorOpen
import Derived.Test.YtcclcecjidlojaaDoorCards
import Derived.Test.YtcclcecjidlojaaDoorTie
import Derived.Deep.DeepHandedRow
import Derived.Lib.LaidTab
import Derived.Test.YtcclcecjidlojaaDoorRfLaid
import Derived.Test.YtcclcecjidlojaaDoorRfSpeak
import Derived.Test.YtcclcecjidlojaaDoorRfStepP
import Derived.Deep.QuietTactic
import Derived.BigQuiet
import Derived.Deep.Cut
namespace Go.Proofs.YtcclcecjidlojaaDoor.recfilePlays
open Go.ChangeShapes Go.WideShapes Go.ChangeAt Go.RowKit
open Go.ChangeMaps (open_string shut_string)
set_option linter.unusedVariables false
set_option linter.unusedSimpArgs false

theorem news_facts {K V S : Int} (h : newErr K V S = 0) : ∃ k v s : Nat, K = (k : Int) ∧ V = (v : Int) ∧ S = (s : Int) ∧ k < 256 ∧ v < 256 ∧ 2 ≤ s ∧ s ≤ 255 := by
  unfold newErr at h
  split at h
  · rename_i h1
    split at h
    · rename_i h2
      simp only [Bool.and_eq_true, decide_eq_true_eq] at h1 h2
      exact ⟨K.toNat, V.toNat, S.toNat, by omega, by omega, by omega, by omega, by omega, by omega, by omega⟩
    · exact absurd h (by decide)
  · exact absurd h (by decide)
theorem plays_at {w w' : World} {B : Nat} {A : Option Addr} {L : List Opd} {j : Nat} (h : OpsD w B A L) (hj : j < L.length) : ∃ b off, A = some ⟨b, off, none⟩ ∧ b < B ∧ OpDt w B b (off + j * 3) (nthD L j) := h j _ (nthD_get hj)
set_option maxRecDepth 100000 in
set_option maxHeartbeats 1000000 in
theorem walk (w : World) (hT : TabW w) {K V S : Int} (hx : (-9223372036854775808 ≤ K ∧ K ≤ 9223372036854775807) ∧ (-9223372036854775808 ≤ V ∧ V ≤ 9223372036854775807) ∧ (-9223372036854775808 ≤ S ∧ S ≤ 9223372036854775807)) {A' : Option Addr} {L : List Opd} {c' : Nat} (hy : OpsD w w.heap.size A' L ∧ L.length * 40 ≤ 140737488351232) :
    Calls Tryd.prog 6 #[.agg #[.int .i64 K, .int .i64 V, .int .i64 S], .slice A' L.length c'] w fun e w' => e = .returned (.bool true) ∧ Below w.heap.size w w' := by
  have HT := Lib.hid hT
  have HO := Lib.hid hy.1
  have HOL := Lib.hid hy.2
  have h1 := (St.start Zf w).newBlk 24 #[.int .i64 K, .int .i64 V, .int .i64 S]
  have H1 := Lib.hid h1
  have HT1 := Lib.hid (HT.out.below h1.bel HT.out.1)
  clear hT hx hy h1
  by_cases hok : newErr K V S = 0
  case neg =>
    have HE := Lib.hid hok
    clear hok
    go_enter Tryd.func6, Tryd.ntmps6
    go_wp2_with (first
      | (go_at_call 11; refine (speaks9_any _ HT1.out).mono ?_; rintro e w1 ⟨rfl, hb1⟩; have h2 := H1.out.below hb1; have H2 := Lib.hid h2; obtain ⟨p0, p1, p2⟩ := headCells h2; clear hb1 h2)
      | (go_at_call 12; (with_reducible refine (rfNew_no K V S HE.out).mono ?_); rintro e w3 ⟨rfl, rfl⟩)
      | (go_at_call 13; (with_reducible refine (refNew_no K V S HE.out).mono ?_); rintro e w3 ⟨rfl, rfl⟩))
    go_ret
    exact ⟨rfl, H2.out.bel⟩
  case pos =>
    have HE := Lib.hid hok
    obtain ⟨k, v, s, hk, hv, hs, f⟩ := news_facts hok
    have HF := Lib.hid f
    have HSS := Lib.hid f.2.2
    have HKV : Hid (k < 256 ∧ v < 256) := Lib.hid ⟨f.1, f.2.1⟩
    clear hok f
    subst hk hv hs
    go_enter Tryd.func6, Tryd.ntmps6
    go_wp2_with (first
      | (go_at_call 11; refine (speaks9_any _ HT1.out).mono ?_; rintro e w1 ⟨rfl, hb1⟩; have h2 := H1.out.below hb1; have H2 := Lib.hid h2; obtain ⟨p0, p1, p2⟩ := headCells h2; clear hb1 h2)
      | (go_at_call 12; (with_reducible refine (rfNew_ok H2.out (k : Int) (v : Int) (s : Int) HE.out).mono ?_); rintro e w3 ⟨g, rfl, h3⟩; have H3 := Lib.hid h3; obtain ⟨p3, p4, p5⟩ := headCells h3.swap; clear h3)
      | (go_at_call 13; (with_reducible refine (refNew_ok H3.out (k : Int) (v : Int) (s : Int) HE.out).mono ?_); rintro e w4 ⟨m, rfl, h4⟩; have H4 := Lib.hid h4.swap; clear h4))
    clear p0 p1 p2 p3 p4 p5
    go_loopw [47] (fun i wr => ∃ (j lw : Nat) (M : List Rc), j ≤ L.length ∧ i = .int .i64 j ∧ Bo M s lw ∧ St Zf [RfA g (k : Int) (v : Int) (s : Int) (recB M) ((liveL M M.length : Nat) : Int) (lw : Int), DfA m (k : Int) (v : Int) (s : Int) M, BlkA w.heap.size 24 #[.int .i64 (k : Int), .int .i64 (v : Int), .int .i64 (s : Int)]] w wr) (fun i _ => L.length - (intOf i).toNat)
    case atStart => exact ⟨0, 0, [], Nat.zero_le _, rfl, Bo.nil s, H4.out⟩
    case round =>
      obtain ⟨j, lw, M, hj, rfl, hbo, hst⟩ := hrel
      clear H4 H3
      by_cases hlt : j < L.length
      · obtain ⟨ob, off, hA, hbB, X, xc, q0, q1, q2, hX, hXc, hXm, -, -⟩ := plays_at (w' := wr) HO.out hlt
        generalize nthD L j = o at *
        obtain ⟨kd, id, D⟩ := o
        simp only at q0 q1 q2 hX hXc
        have k0 := (hst.old (p := ⟨ob, off + j * 3, none⟩) hbB).trans q0
        have k1 := (hst.old (p := ⟨ob, off + j * 3 + 1, none⟩) hbB).trans q1
        have k2 := (hst.old (p := ⟨ob, off + j * 3 + 2, none⟩) hbB).trans q2
        have h6 := (hst.newBlk 44 #[.int .i64 kd, .int .i64 id, .slice X D.length xc])
        have HS6 := Lib.hid (step_any (kd := kd) (id := id) (X := X) (c := xc) (D := D) (l := [BlkA wr.heap.size 44 #[.int .i64 kd, .int .i64 id, .slice X D.length xc], BlkA w.heap.size 24 #[.int .i64 (k : Int), .int .i64 (v : Int), .int .i64 (s : Int)]]) h6.back2 hbo HSS.out HKV.out HT.out hX (by omega) hXc)
        have hjw : wrap64 ((j : Int) + 1) = (j : Int) + 1 := rfwrap (by omega) (by have := HOL.out; omega)
        have hjI : (j : Int) < (L.length : Int) := by omega
        have HLT := Lib.hid hlt
        subst hA
        clear q0 q1 q2 hX hXc hXm hst h6 hbo hbB hj
        go_wp2_with (first
          | (go_at_call 22; refine (HS6.out).mono ?_; rintro e w7 ⟨rfl, M', lw', hbo', h7⟩; have HBO := Lib.hid hbo'; have H7 := Lib.hid h7; clear h7 hbo')
          | (go_at_call 14; refine (alike_yes H7.out (Nat.lt_of_lt_of_le (by decide) HSS.out.1) HBO.out.rw_.len HBO.out.rw_.few rfl rfl).mono ?_; rintro e w8 ⟨rfl, q8, hw8⟩; have h8 := H7.out.drewN q8; rw [← hw8] at h8; have H8 := Lib.hid h8.bring2.drop; clear h8 hw8))
        go_roundw
        case rel => exact ⟨j + 1, lw', M', HLT.out, by go_num, HBO.out, H8.out⟩
        case measure => first | exact meas_lt hlt | (rw [hjw]; exact meas_lt hlt)
      · obtain rfl : L.length = j := by omega
        have hfl := hbo.bytesLen HSS.out.2 k v
        have hb1 := rfBytes_any hst HSS.out.1 HSS.out.2 hbo.rw_.len hbo.rw_.few HKV.out.1 HKV.out.2 (HT.out.below hst.bel HT.out.1)
        have hb2 := fun (l : List Ass) (_ : Stable (Sep l)) (w' : World) (h' : St Zf (DfA m (k : Int) (v : Int) (s : Int) M :: l) w w') => refBytes_any h' HSS.out.1 HSS.out.2 HKV.out.1 HKV.out.2 hbo.rw_.few hbo.rcs
        obtain ⟨F, hF⟩ : ∃ F, F = rfBytes k v s M.length (recB M) := ⟨_, rfl⟩
        rw [← hF] at hfl hb1 hb2
        have HB1 := Lib.hid hb1
        have HB2 := Lib.hid hb2
        have HFM : Hid (F.length ≤ maxLen) := Lib.hid (by unfold maxLen; omega)
        have hjI : ¬ (L.length : Int) < (L.length : Int) := by omega
        clear hst hb1 hb2 hF hfl hbo hj hlt
        go_wp2_with (first
          | (go_at_call 16; refine (HB1.out).mono ?_; rintro e w5 ⟨x5, rfl, h5⟩; obtain ⟨A5, c5, rfl, -, -, -, -⟩ := h5.ob.form; have H5 := Lib.hid h5; clear h5)
          | (go_at_call 17; refine (HB2.out _ inferInstance _ H5.out.bring2).mono ?_; rintro e w6 ⟨x6, rfl, h6⟩; obtain ⟨A6, c6, rfl, -, -, -, -⟩ := h6.ob.form; have H6 := Lib.hid h6; clear h6)
          | (go_at_call 15; refine (same_yes A5 A6 _ c5 c6 _ _ F w6 H6.out.bring2.ob.reads.2.1 H6.out.ob.reads.2.1 rfl HFM.out).mono ?_; rintro e w7 ⟨rfl, q7, hw7⟩; have h7 := H6.out.drewN q7; rw [← hw7] at h7; have H7 := Lib.hid h7.bel; clear h7 hw7))
        go_ret
        exact ⟨rfl, H7.out⟩

/-! ### THE ROW's STEP -/
theorem own : ownKnob Tryd.prog.godebug = none := by kernel_rfl
theorem laidOut : laidOutB Tryd.prog = true := by kernel_rfl

set_option maxRecDepth 100000 in
set_option maxRecDepth 100000 in
theorem contract (H : Type) (enc : TypeId × Value → H) (W : World) (base : Nat) (args : Array Value) (ds gs : List (DataW H)) (before : List MemPlace)
    (hval0 : ∀ (j : Nat) t v, Tryd.f6.params[j]? = some t → args[j]? = some v → Value.okWide Tryd.prog W .any base t v)
    (hW : DataW.Whole enc Tryd.prog Tryd.f6.params.toList Rows.recfilePlaysSpec.vars false W args.toList ds gs before)
    (hsz : (DataW.weightsEach Tryd.prog (Tryd.f6.params.toList ++ (OpenSpec.ofChange Rows.recfilePlaysSpec).bare.plain.varTypes Tryd.prog) (ds ++ gs)).all (· ≤ reachBytes) = true) (hL : laidMetH Tryd.prog Rows.recfilePlaysRow.laid W) :
    Calls Tryd.prog 6 args W fun e W' => ∃ v, e = .returned v ∧ Rows.recfilePlaysSpec.post enc Tryd.prog Tryd.f6 false true false false W args v W' := by
  have hval : ∀ (j : Nat) t v, Tryd.f6.params[j]? = some t → args[j]? = some v → Value.okWide Tryd.prog W .any base t v := hval0
  have hW' := hW
  have hTab := Lib.hid (tabs_of hL)
  clear hL
  obtain ⟨p, q, hA0, hV, rfl, hfz, hnd⟩ := hW
  have hA : DataW.TrodAll enc Tryd.prog W 0 (fun _ => true) true Tryd.f6.params.toList args.toList ds p := hA0
  rw [Tryd.params6] at hA hval
  obtain ⟨v0, vs0, d0, ds0, p0, q0, hargs, rfl, rfl, h0, r0⟩ := trodAll_cons hA
  obtain ⟨v1, vs1, d1, ds1, p1, q1, rfl, rfl, rfl, h1, r1⟩ := trodAll_cons r0
  obtain ⟨rfl, rfl, rfl⟩ := trodAll_nil r1
  obtain rfl : args = #[v0, v1] := by cases args; simp_all
  obtain ⟨rfl, rfl⟩ := trodVars_none hV
  have k0 := h0
  have lt0 : ∀ x ∈ p0, x.block < W.heap.size := by obtain ⟨m, hm⟩ := k0; exact DataW.trod_lt m _ _ _ hm
  have w0 := reach_at hsz (j := 0) rfl rfl
  have k1 := h1
  have lt1 : ∀ x ∈ p1, x.block < W.heap.size := by obtain ⟨m, hm⟩ := k1; exact DataW.trod_lt m _ _ _ hm
  have w1 := reach_at hsz (j := 1) rfl rfl
  clear hA0 hval0 hsz
  obtain ⟨K0, V0, S0, rfl, hx0⟩ := open_head (hval 0 _ v0 rfl rfl) w0 h0 lt0
  obtain ⟨A1, L1, c1, rfl, hx1⟩ := open_scriptD (hval 1 _ v1 rfl rfl) w1 h1 lt1
  refine (walk W hTab.out hx0 hx1).mono fun e W' ⟨he, bel⟩ => ?_
  subst he
  exact ⟨_, rfl, _, _, _, [], _, [], hW', trodAll_mk1 (shut_bool Tryd.underlying4 _), (trodAll_cons_mk (Below.trod laidOut (by kernel_rfl) (of_decide_eq_true (by kernel_rfl)) k0 bel lt0) (trodAll_cons_mk (Below.trod laidOut (by kernel_rfl) (of_decide_eq_true (by kernel_rfl)) k1 bel lt1) trodAll_mk0)), rfl, bel.frame _, fun h => by cases h⟩

set_option maxRecDepth 100000 in
theorem laid_met (os : Os) : laidMet Tryd.prog Rows.recfilePlaysRow.laid ((laidWorldN os).forCall (fun _ _ => 0) ⟨#[], #[.agg #[.int .i64 0, .int .i64 0, .int .i64 0], .slice none 0 0], []⟩).memory :=
  laidMet_of_run3 8 (by kernel_rfl) (by kernel_rfl) (by kernel_rfl)
theorem reads (os : Os) {H : Type} (enc : TypeId × Value → H) : ∃ places, DataW.whole enc Tryd.prog ((laidWorldN os).forCall (fun _ _ => 0) ⟨#[], #[.agg #[.int .i64 0, .int .i64 0, .int .i64 0], .slice none 0 0], []⟩).memory Tryd.f6.params.toList Rows.recfilePlaysSpec.vars false (#[.agg #[.int .i64 0, .int .i64 0, .int .i64 0], .slice none 0 0] : Array Value).toList 8 = some ([.agg [.lit (.int .i64 0), .lit (.int .i64 0), .lit (.int .i64 0)], .nil], [], places) :=
  ⟨[], by kernel_rfl⟩

set_option maxRecDepth 100000 in
theorem lifted (os : Os) (started : os.Started) (H : Type) (enc : TypeId × Value → H) (F : Stop.Interp) :
    ReturnsInHanded {} Tryd.checked os 6 .any ((OpenSpec.ofChange Rows.recfilePlaysSpec).preRow enc Tryd.prog Tryd.f6 Rows.recfilePlaysRow.domain false Rows.recfilePlaysRow.laid) (((OpenSpec.ofChange Rows.recfilePlaysSpec).at F).post enc Tryd.prog Tryd.f6 false true false false) := by
  obtain ⟨places, hx⟩ := reads os enc
  refine returnsInHanded_of_row (C := Tryd.checked) (s := (OpenSpec.ofChange Rows.recfilePlaysSpec)) own started (by kernel_rfl) Tryd.func6
    (witness_row_at (enc := enc) (C := Tryd.checked) false (laidWorldN os) #[.agg #[.int .i64 0, .int .i64 0, .int .i64 0], .slice none 0 0] rfl (by kernel_rfl) (by kernel_rfl) (by kernel_rfl)
      (OpenSpec.preRow_of_cond 8 hx (by kernel_rfl) (fun k hk => by cases hk) (by kernel_rfl) (laid_met os))) ?_
  intro W base args ds gs before hval hW _ hcond hsz hL _ _
  exact contract H enc W base args ds gs before hval hW hsz hL

theorem said : Rows.RecfilePlaysSaid :=
  OpenClaim.holds_of_cond 6 Tryd.f6 rfl rfl rfl rfl rfl rfl rfl ⟨rfl, rfl, rfl, rfl, rfl⟩ rfl rfl rfl rfl rfl (by kernel_rfl) Tryd.func6 (by kernel_rfl)
    (of_decide_eq_true (by kernel_rfl)) (by unfold Func.isWrapper; rw [if_neg (of_decide_eq_false (by kernel_rfl))]; exact ⟨rfl, rfl⟩)
    (fun os started H enc _ F => by rw [OpenClaim.pre_eq_preRow]; exact lifted os started H enc F)

theorem noStandIn : ∀ t ∈ ([24, 42] : List TypeId), Tryd.prog.wantsStandIn t = false := by
  intro t ht
  simp only [List.mem_cons, List.not_mem_nil, or_false] at ht
  rcases ht with rfl | rfl
  · exact (show Tryd.prog.wantsStandIn 24 = false by kernel_rfl)
  · exact (show Tryd.prog.wantsStandIn 42 = false by kernel_rfl)
theorem plain (f : FuncId) (fn : Func) (hf : Tryd.pinned.checked.prog.funcNamed "satchel/satchellaw09.RecfilePlays" = some f) (hfn : Tryd.pinned.checked.prog.funcs[f]? = some fn) :
    false = Tryd.pinned.checked.prog.looks [] ∧ ∀ (j : Nat) t, fn.params[j]? = some t → Tryd.pinned.checked.prog.wantsStandIn t = false := by
  obtain rfl : f = 6 := Option.some.inj ((show Tryd.prog.funcNamed "satchel/satchellaw09.RecfilePlays" = some 6 by kernel_rfl).symm.trans hf) |>.symm
  obtain rfl : fn = Tryd.f6 := (Option.some.inj (Tryd.func6.symm.trans hfn)).symm
  refine ⟨by kernel_rfl, fun j t ht => ?_⟩
  rw [Tryd.params6] at ht
  exact noStandIn t (by simpa using Array.mem_of_getElem? ht)

/-- THE CARD -/
theorem proved : Rows.RecfilePlaysCardSaid :=
  Claim7.holds_tied_plain_at .later [] _ _ _ _ said (fun _ h => by cases h) (by kernel_rfl) (fun _ h => by cases h) recfilePlays_row_tie rfl ⟨rfl, rfl⟩ (by kernel_rfl) rfl plain (by kernel_rfl)
end Go.Proofs.YtcclcecjidlojaaDoor.recfilePlays
