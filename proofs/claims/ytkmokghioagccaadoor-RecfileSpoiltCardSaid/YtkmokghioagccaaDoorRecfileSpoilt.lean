/- A file of which one byte of its head is another one isn't opened, for any bytes within the form's reach. -/
import Derived.Test.YtkmokghioagccaaDoorOpen
import Derived.Test.YtkmokghioagccaaDoorCards
import Derived.Test.YtkmokghioagccaaDoorTie
import Derived.Deep.DeepHandedRow
import Derived.Lib.LaidTab
import Derived.Test.YtkmokghioagccaaDoorRfLaid
import Derived.Test.YtkmokghioagccaaDoorRfSpeak
import Derived.Test.YtkmokghioagccaaDoorRfClone
import Derived.Test.YtkmokghioagccaaDoorRfSpoil
import Derived.Deep.QuietTactic
import Derived.BigQuiet
namespace Go.Proofs.YtkmokghioagccaaDoor.recfileSpoilt
open Go.ChangeShapes Go.WideShapes Go.ChangeAt Go.RowKit
open Go.ChangeMaps (open_string shut_string)
set_option linter.unusedVariables false

theorem xor8 (a b : Nat) (ha : a < 256) (hb : b < 256) : bits .xor .u8 (a : Int) (b : Int) = ((a ^^^ b : Nat) : Int) := u8_xor_nat a b ha hb
theorem spoilOpen {w0 w : World} {l : List Ass} [Stable (Sep l)] {A : Option Addr} {cap n : Nat} {bs : List Nat} (hbad : bs.length < 16 ∨ hdErr bs ≠ 0) (hn : bs.length = n) (h : St Zf l w0 w) (hr : RB w w.heap.size A bs) (hT : TabW w) (hl2 : n ≤ 140737488355328) (hcap : n ≤ cap) :
    Calls Tryd.prog 19 #[.slice A n cap] w fun e w' => ∃ ee : Int, ee ≠ 0 ∧ e = .returned (.tuple #[.pointer none, .int .i64 ee]) ∧ Below w0.heap.size w0 w' := by
  subst hn
  refine (rfOpen_head h hr (Nat.le_refl _) hT hl2 hcap hbad).mono ?_
  rintro e w' ⟨rfl, h1, h2⟩
  exact ⟨_, h1, rfl, h2.bel⟩
set_option maxRecDepth 100000 in
set_option maxHeartbeats 1000000 in
theorem walk (w : World) (hT : TabW w) {A : Option Addr} {c : Nat} {b : List Nat} (hb : RB w w.heap.size A b) (hbc : b.length ≤ c) (hcm : c ≤ 140737488351232) {at_ : Int} (hat : -9223372036854775808 ≤ at_ ∧ at_ ≤ 9223372036854775807) {x_ : Int} (hx_ : 0 ≤ x_ ∧ x_ ≤ 255) :
    Calls Tryd.prog 8 #[.slice A b.length c, .int .i64 at_, .int .u8 x_] w fun e w' => e = .returned (.bool true) ∧ Below w.heap.size w w' := by
  obtain ⟨x, rfl⟩ := Int.eq_ofNat_of_zero_le hx_.1
  have HT := Lib.hid hT
  have HBS := Lib.hid hb.1
  have HBL : Hid (b.length ≤ 140737488355328) := Lib.hid (by omega)
  have HCL := Lib.hid fun (w1 : World) (h1 : Below w.heap.size w w1) => lawClone_any A c w.heap.size b w1 (hb.below' h1 (Nat.le_refl _)) h1.size (by omega)
  have hx8 : x < 256 := by omega
  clear hT hb hbc hcm hx_
  by_cases hgood : 16 ≤ b.length ∧ hdErr b = 0 ∧ openErr b = 0
  case neg =>
    have HG := Lib.hid hgood
    clear hgood hat hx8
    go_enter Tryd.func8, Tryd.ntmps8
    go_wp2_with (first
      | (go_at_call 11; refine (speaks9_any w HT.out).mono ?_; rintro e w1 ⟨rfl, hb1⟩; have HB1 := Lib.hid hb1; clear hb1)
      | (go_at_call 18; refine (HCL.out w1 HB1.out).mono ?_; rintro e w2 ⟨v2, rfl, ho2, hb2⟩; have h2 := ((St.start Zf w).below HB1.out).newOb ho2 hb2; obtain ⟨A2, c2, rfl, hc2, -, -, -⟩ := ho2.form; have HO := Lib.hid (lowOpen_no HG.out h2 h2.ob.reads.2.1 (HT.out.below h2.bel HT.out.1) HBL.out hc2); clear h2 ho2 hb2 hc2)
      | (go_at_call 19; refine (HO.out).mono ?_; rintro e w3 ⟨ee, rfl, h3⟩; have H3 := Lib.hid h3.bel; clear h3))
    go_ret
    exact ⟨rfl, H3.out⟩
  case pos =>
    have HG := Lib.hid fun (w2 : World) (A2 : Option Addr) (c2 : Nat) (h2 : St Zf [ObA 5 (.slice A2 b.length c2) b] w w2) (hc2 : b.length ≤ c2) => lowOpen_yes hgood h2 h2.ob.reads.2.1 (HT.out.below h2.bel HT.out.1) HBL.out hc2
    have h16 := hgood.1
    by_cases hin : (0 ≤ at_ ∧ at_ ≤ 15) ∧ x ≠ 0
    case neg =>
      clear hgood
      have hl16 : 16 ≤ (b.length : Int) := by omega
      clear h16
      by_cases h1 : at_ < 0
      case pos =>
        clear hin
        go_enter Tryd.func8, Tryd.ntmps8
        go_wp2_with (first
          | (go_at_call 11; refine (speaks9_any w HT.out).mono ?_; rintro e w1 ⟨rfl, hb1⟩; have HB1 := Lib.hid hb1; clear hb1)
          | (go_at_call 18; refine (HCL.out w1 HB1.out).mono ?_; rintro e w2 ⟨v2, rfl, ho2, hb2⟩; have h2 := ((St.start Zf w).below HB1.out).newOb ho2 hb2; obtain ⟨A2, c2, rfl, hc2, -, -, -⟩ := ho2.form; have HO := Lib.hid (HG.out w2 A2 c2 h2 hc2); clear h2 ho2 hb2 hc2)
          | (go_at_call 19; refine (HO.out).mono ?_; rintro e w3 ⟨g, rfl, h3⟩; have H3 := Lib.hid h3.bel; clear h3))
        go_ret
        exact ⟨rfl, H3.out⟩
      case neg =>
        by_cases h2 : 15 < at_
        case pos =>
          clear hin
          go_enter Tryd.func8, Tryd.ntmps8
          go_wp2_with (first
            | (go_at_call 11; refine (speaks9_any w HT.out).mono ?_; rintro e w1 ⟨rfl, hb1⟩; have HB1 := Lib.hid hb1; clear hb1)
            | (go_at_call 18; refine (HCL.out w1 HB1.out).mono ?_; rintro e w2 ⟨v2, rfl, ho2, hb2⟩; have h2 := ((St.start Zf w).below HB1.out).newOb ho2 hb2; obtain ⟨A2, c2, rfl, hc2, -, -, -⟩ := ho2.form; have HO := Lib.hid (HG.out w2 A2 c2 h2 hc2); clear h2 ho2 hb2 hc2)
            | (go_at_call 19; refine (HO.out).mono ?_; rintro e w3 ⟨g, rfl, h3⟩; have H3 := Lib.hid h3.bel; clear h3))
          go_ret
          exact ⟨rfl, H3.out⟩
        case neg =>
          obtain rfl : x = 0 := by omega
          clear hin
          have h3' : at_ < (b.length : Int) := by omega
          go_enter Tryd.func8, Tryd.ntmps8
          go_wp2_with (first
            | (go_at_call 11; refine (speaks9_any w HT.out).mono ?_; rintro e w1 ⟨rfl, hb1⟩; have HB1 := Lib.hid hb1; clear hb1)
            | (go_at_call 18; refine (HCL.out w1 HB1.out).mono ?_; rintro e w2 ⟨v2, rfl, ho2, hb2⟩; have h2 := ((St.start Zf w).below HB1.out).newOb ho2 hb2; obtain ⟨A2, c2, rfl, hc2, -, -, -⟩ := ho2.form; have HO := Lib.hid (HG.out w2 A2 c2 h2 hc2); clear h2 ho2 hb2 hc2)
            | (go_at_call 19; refine (HO.out).mono ?_; rintro e w3 ⟨g, rfl, h3⟩; have H3 := Lib.hid h3.bel; clear h3))
          go_ret
          exact ⟨rfl, H3.out⟩
    case pos =>
      obtain ⟨⟨ha0, ha1⟩, hx0⟩ := hin
      obtain ⟨k, rfl⟩ := Int.eq_ofNat_of_zero_le ha0
      have hk : k < 16 := by omega
      have hkb : k < b.length := by omega
      have hn : nth b k < 256 := HBS.out.nth k
      have hy : nth b k ^^^ x < 256 := Nat.xor_lt_two_pow (n := 8) hn hx8
      have e1 := xor8 (nth b k) x hn hx8
      have hbad := openErr_turned HBS.out hgood.1 hgood.2.1 hk hx0 hx8
      obtain ⟨y, hyy⟩ : ∃ y, y = nth b k ^^^ x := ⟨_, rfl⟩
      rw [← hyy] at hy e1 hbad
      have HOB := Lib.hid fun (w2 : World) (A2 : Option Addr) (c2 : Nat) (h2 : St Zf [ObA 5 (.slice A2 b.length c2) (b.set k y)] w w2) (hc2 : b.length ≤ c2) => spoilOpen hbad (List.length_set ..) h2 h2.ob.reads.2.1 (HT.out.below h2.bel HT.out.1) HBL.out hc2
      have HY := Lib.hid hy
      have hxI : ¬ ((x : Int) = 0) := by omega
      have hz : ((x : Int) == 0) = false := by simpa using hxI
      clear hgood hat ha0 hyy hbad hy h16
      go_enter Tryd.func8, Tryd.ntmps8
      go_wp2_with (first
        | (go_at_call 11; refine (speaks9_any w HT.out).mono ?_; rintro e w1 ⟨rfl, hb1⟩; have HB1 := Lib.hid hb1; clear hb1)
        | (go_at_call 18; (with_reducible refine (HCL.out w1 HB1.out).mono ?_); rintro e w2 ⟨v2, rfl, ho2, hb2⟩; have h2 := ((St.start Zf w).below HB1.out).newOb ho2 hb2; obtain ⟨A2, c2, rfl, hc2, -, -, -⟩ := ho2.form; have HO := Lib.hid (HG.out w2 A2 c2 h2 hc2); clear h2 ho2 hb2 hc2)
        | (go_at_call 19; (with_reducible refine (HO.out).mono ?_); rintro e w3 ⟨g, rfl, h3⟩; have H3 := Lib.hid h3.bel; clear h3)
        | (go_at_call 18; (with_reducible refine (HCL.out w3 H3.out).mono ?_); rintro e w4 ⟨v4, rfl, ho4, hb4⟩; have h4 := ((St.start Zf w).below H3.out).newOb ho4 hb4; obtain ⟨A4, c4, rfl, hc4, -, -, -⟩ := ho4.form; obtain ⟨g4, rfl, -, hf4, hs4⟩ := h4.storeObB rfl hkb y HY.out; obtain ⟨bt, ot, hA, -, hcx⟩ := h4.ob.reads.2.1.at_ (k := k) hkb; injection hA with hA; injection hA with hA1 hA2; subst hA1 hA2; rw [Nat.zero_add] at hcx; have HO4 := Lib.hid (HOB.out _ _ _ hs4 hc4); clear h4 hs4 ho4 hb4 hc4)
        | (go_at_call 19; (with_reducible refine (HO4.out).mono ?_); rintro e w5 ⟨ee, hne, rfl, h5⟩; have H5 := Lib.hid h5; clear h5))
      all_goals first
        | (have h5 := H5.out; go_ret; exact ⟨by simp [hne], h5⟩)
        | (rename_i hh; exact absurd (And.intro (And.intro (And.intro (Int.natCast_nonneg k) ha1) (Nat.not_le_of_lt hkb)) hz) hh)
        | (rename_i hh; exfalso; simp_all; omega)

/-! ### THE ROW's STEP -/
theorem own : ownKnob Tryd.prog.godebug = none := by kernel_rfl
theorem laidOut : laidOutB Tryd.prog = true := by kernel_rfl

set_option maxRecDepth 100000 in
set_option maxRecDepth 100000 in
theorem contract (H : Type) (enc : TypeId × Value → H) (W : World) (base : Nat) (args : Array Value) (ds gs : List (DataW H)) (before : List MemPlace)
    (hval0 : ∀ (j : Nat) t v, Tryd.f8.params[j]? = some t → args[j]? = some v → Value.okWide Tryd.prog W .any base t v)
    (hW : DataW.Whole enc Tryd.prog Tryd.f8.params.toList Rows.recfileSpoiltSpec.vars false W args.toList ds gs before)
    (hsz : (DataW.weightsEach Tryd.prog (Tryd.f8.params.toList ++ (OpenSpec.ofChange Rows.recfileSpoiltSpec).bare.plain.varTypes Tryd.prog) (ds ++ gs)).all (· ≤ reachBytes) = true) (hL : laidMetH Tryd.prog Rows.recfileSpoiltRow.laid W) :
    Calls Tryd.prog 8 args W fun e W' => ∃ v, e = .returned v ∧ Rows.recfileSpoiltSpec.post enc Tryd.prog Tryd.f8 false true false false W args v W' := by
  have hval : ∀ (j : Nat) t v, Tryd.f8.params[j]? = some t → args[j]? = some v → Value.okWide Tryd.prog W .any base t v := hval0
  have hW' := hW
  have hTab := Lib.hid (tabs_of hL)
  clear hL
  obtain ⟨p, q, hA0, hV, rfl, hfz, hnd⟩ := hW
  have hA : DataW.TrodAll enc Tryd.prog W 0 (fun _ => true) true Tryd.f8.params.toList args.toList ds p := hA0
  rw [Tryd.params8] at hA hval
  obtain ⟨v0, vs0, d0, ds0, p0, q0, hargs, rfl, rfl, h0, r0⟩ := trodAll_cons hA
  obtain ⟨v1, vs1, d1, ds1, p1, q1, rfl, rfl, rfl, h1, r1⟩ := trodAll_cons r0
  obtain ⟨v2, vs2, d2, ds2, p2, q2, rfl, rfl, rfl, h2, r2⟩ := trodAll_cons r1
  obtain ⟨rfl, rfl, rfl⟩ := trodAll_nil r2
  obtain rfl : args = #[v0, v1, v2] := by cases args; simp_all
  obtain ⟨rfl, rfl⟩ := trodVars_none hV
  have k0 := h0
  have lt0 : ∀ x ∈ p0, x.block < W.heap.size := by obtain ⟨m, hm⟩ := k0; exact DataW.trod_lt m _ _ _ hm
  have w0 := reach_at hsz (j := 0) rfl rfl
  have k1 := h1
  have lt1 : ∀ x ∈ p1, x.block < W.heap.size := by obtain ⟨m, hm⟩ := k1; exact DataW.trod_lt m _ _ _ hm
  have w1 := reach_at hsz (j := 1) rfl rfl
  have k2 := h2
  have lt2 : ∀ x ∈ p2, x.block < W.heap.size := by obtain ⟨m, hm⟩ := k2; exact DataW.trod_lt m _ _ _ hm
  have w2 := reach_at hsz (j := 2) rfl rfl
  clear hA0 hval0 hsz
  obtain ⟨A0, n0, c0, rfl⟩ := okWide_slice Tryd.underlying34 (hval 0 34 v0 rfl rfl)
  obtain ⟨b0, rfl, rb0, cb0, mb0⟩ := open_bytes Tryd.underlying34 Tryd.underlying5 (by kernel_rfl) (by kernel_rfl) w0 h0
  obtain ⟨a1, rfl, rfl, rfl, wf1⟩ := open_int Tryd.underlying3 (hval 1 3 v1 rfl rfl) h1
  obtain ⟨a2, rfl, rfl, rfl, wf2⟩ := open_int Tryd.underlying5 (hval 2 5 v2 rfl rfl) h2
  refine (walk W hTab.out rb0 cb0 mb0 (bounds_i64 wf1) (bounds_u8 wf2)).mono fun e W' ⟨he, bel⟩ => ?_
  subst he
  exact ⟨_, rfl, _, _, _, [], _, [], hW', trodAll_mk1 (shut_bool Tryd.underlying4 _), (trodAll_cons_mk (Below.trod laidOut (by kernel_rfl) (of_decide_eq_true (by kernel_rfl)) k0 bel lt0) (trodAll_cons_mk (Below.trod laidOut (by kernel_rfl) (of_decide_eq_true (by kernel_rfl)) k1 bel lt1) (trodAll_cons_mk (Below.trod laidOut (by kernel_rfl) (of_decide_eq_true (by kernel_rfl)) k2 bel lt2) trodAll_mk0))), rfl, bel.frame _, fun h => by cases h⟩

set_option maxRecDepth 100000 in
theorem laid_met (os : Os) : laidMet Tryd.prog Rows.recfileSpoiltRow.laid ((laidWorldN os).forCall (fun _ _ => 0) ⟨#[], #[.slice none 0 0, .int .i64 0, .int .u8 0], []⟩).memory :=
  laidMet_of_run3 8 (by kernel_rfl) (by kernel_rfl) (by kernel_rfl)
theorem reads (os : Os) {H : Type} (enc : TypeId × Value → H) : ∃ places, DataW.whole enc Tryd.prog ((laidWorldN os).forCall (fun _ _ => 0) ⟨#[], #[.slice none 0 0, .int .i64 0, .int .u8 0], []⟩).memory Tryd.f8.params.toList Rows.recfileSpoiltSpec.vars false (#[.slice none 0 0, .int .i64 0, .int .u8 0] : Array Value).toList 8 = some ([.nil, .lit (.int .i64 0), .lit (.int .u8 0)], [], places) :=
  ⟨[], by kernel_rfl⟩

set_option maxRecDepth 100000 in
theorem lifted (os : Os) (started : os.Started) (H : Type) (enc : TypeId × Value → H) (F : Stop.Interp) :
    ReturnsInHanded {} Tryd.checked os 8 .any ((OpenSpec.ofChange Rows.recfileSpoiltSpec).preRow enc Tryd.prog Tryd.f8 Rows.recfileSpoiltRow.domain false Rows.recfileSpoiltRow.laid) (((OpenSpec.ofChange Rows.recfileSpoiltSpec).at F).post enc Tryd.prog Tryd.f8 false true false false) := by
  obtain ⟨places, hx⟩ := reads os enc
  refine returnsInHanded_of_row (C := Tryd.checked) (s := (OpenSpec.ofChange Rows.recfileSpoiltSpec)) own started (by kernel_rfl) Tryd.func8
    (witness_row_at (enc := enc) (C := Tryd.checked) false (laidWorldN os) #[.slice none 0 0, .int .i64 0, .int .u8 0] rfl (by kernel_rfl) (by kernel_rfl) (by kernel_rfl)
      (OpenSpec.preRow_of_cond 8 hx (by kernel_rfl) (fun k hk => by cases hk) (by kernel_rfl) (laid_met os))) ?_
  intro W base args ds gs before hval hW _ hcond hsz hL _ _
  exact contract H enc W base args ds gs before hval hW hsz hL

theorem said : Rows.RecfileSpoiltSaid :=
  OpenClaim.holds_of_cond 8 Tryd.f8 rfl rfl rfl rfl rfl rfl rfl ⟨rfl, rfl, rfl, rfl, rfl⟩ rfl rfl rfl rfl rfl (by kernel_rfl) Tryd.func8 (by kernel_rfl)
    (of_decide_eq_true (by kernel_rfl)) (by unfold Func.isWrapper; rw [if_neg (of_decide_eq_false (by kernel_rfl))]; exact ⟨rfl, rfl⟩)
    (fun os started H enc _ F => by rw [OpenClaim.pre_eq_preRow]; exact lifted os started H enc F)

theorem noStandIn : ∀ t ∈ ([34, 3, 5] : List TypeId), Tryd.prog.wantsStandIn t = false := by
  intro t ht
  simp only [List.mem_cons, List.not_mem_nil, or_false] at ht
  rcases ht with rfl | rfl | rfl
  · exact (show Tryd.prog.wantsStandIn 34 = false by kernel_rfl)
  · exact (show Tryd.prog.wantsStandIn 3 = false by kernel_rfl)
  · exact (show Tryd.prog.wantsStandIn 5 = false by kernel_rfl)
theorem plain (f : FuncId) (fn : Func) (hf : Tryd.pinned.checked.prog.funcNamed "satchel/satchellaw09.RecfileSpoilt" = some f) (hfn : Tryd.pinned.checked.prog.funcs[f]? = some fn) :
    false = Tryd.pinned.checked.prog.looks [] ∧ ∀ (j : Nat) t, fn.params[j]? = some t → Tryd.pinned.checked.prog.wantsStandIn t = false := by
  obtain rfl : f = 8 := Option.some.inj ((show Tryd.prog.funcNamed "satchel/satchellaw09.RecfileSpoilt" = some 8 by kernel_rfl).symm.trans hf) |>.symm
  obtain rfl : fn = Tryd.f8 := (Option.some.inj (Tryd.func8.symm.trans hfn)).symm
  refine ⟨by kernel_rfl, fun j t ht => ?_⟩
  rw [Tryd.params8] at ht
  exact noStandIn t (by simpa using Array.mem_of_getElem? ht)

/-- THE CARD -/
theorem proved : Rows.RecfileSpoiltCardSaid :=
  Claim7.holds_tied_plain_at .later [] _ _ _ _ said (fun _ h => by cases h) (by kernel_rfl) (fun _ h => by cases h) recfileSpoilt_row_tie rfl ⟨rfl, rfl⟩ (by kernel_rfl) rfl plain (by kernel_rfl)
end Go.Proofs.YtkmokghioagccaaDoor.recfileSpoilt
