/- The record taken is the one of the least id that isn't in use, for any bytes and ids within the form's reach. -/
import Derived.Test.YtkmokghioagccaaDoorOpen
import Derived.Test.YtkmokghioagccaaDoorCards
import Derived.Test.YtkmokghioagccaaDoorTie
import Derived.Deep.DeepHandedRow
import Derived.Lib.LaidTab
import Derived.Test.YtkmokghioagccaaDoorRfLaid
import Derived.Test.YtkmokghioagccaaDoorRfSpeak
import Derived.Test.YtkmokghioagccaaDoorRfClone
import Derived.Deep.QuietTactic
import Derived.BigQuiet
import Derived.Deep.Cut
namespace Go.Proofs.YtkmokghioagccaaDoor.recfileLowest
open Go.ChangeShapes Go.WideShapes Go.ChangeAt Go.RowKit
open Go.ChangeMaps (open_string shut_string)
set_option linter.unusedVariables false

set_option maxRecDepth 100000 in
set_option maxHeartbeats 1000000 in
theorem walk (w : World) (hT : TabW w) {A : Option Addr} {c : Nat} {b : List Nat} (hb : RB w w.heap.size A b) (hbc : b.length ≤ c) (hcm : c ≤ 140737488351232) {A' : Option Addr} {O : List Int} {c' : Nat} (hy : RL ivl w w.heap.size A' O ∧ O.length * 8 ≤ 140737488351232) :
    Calls Tryd.prog 9 #[.slice A b.length c, .slice A' O.length c'] w fun e w' => e = .returned (.bool true) ∧ Below w.heap.size w w' := by
  have HT := Lib.hid hT
  have HRB := Lib.hid hb
  have HRO := Lib.hid hy.1
  have HOL := Lib.hid hy.2
  have HBL : Hid (b.length ≤ 140737488355328) := Lib.hid (by omega)
  have HCL := Lib.hid fun (w1 : World) (h1 : Below w.heap.size w w1) => lawClone_any A c w.heap.size b w1 (hb.below' h1 (Nat.le_refl _)) h1.size (by omega)
  clear hT hb hbc hcm hy
  by_cases hgood : 16 ≤ b.length ∧ hdErr b = 0 ∧ openErr b = 0
  case neg =>
    have HG := Lib.hid hgood
    clear hgood
    go_enter Tryd.func9, Tryd.ntmps9
    go_wp2_with (first
      | (go_at_call 11; refine (speaks9_any w HT.out).mono ?_; rintro e w1 ⟨rfl, hb1⟩; have HB1 := Lib.hid hb1; clear hb1)
      | (go_at_call 18; refine (HCL.out w1 HB1.out).mono ?_; rintro e w2 ⟨v2, rfl, ho2, hb2⟩; have h2 := ((St.start Zf w).below HB1.out).newOb ho2 hb2; obtain ⟨A2, c2, rfl, hc2, -, -, -⟩ := ho2.form; have HO := Lib.hid (lowOpen_no HG.out h2 h2.ob.reads.2.1 (HT.out.below h2.bel HT.out.1) HBL.out hc2); clear h2 ho2 hb2 hc2)
      | (go_at_call 19; refine (HO.out).mono ?_; rintro e w3 ⟨ee, rfl, h3⟩; have H3 := Lib.hid h3.bel; clear h3))
    go_ret
    exact ⟨rfl, H3.out⟩
  case pos =>
    have hw0 := openErr_len hgood.1 hgood.2.1 hgood.2.2
    obtain ⟨hs1, hs2, -, -⟩ := hdErr_ok hgood.1 hgood.2.1
    have HG := Lib.hid fun (w2 : World) (A2 : Option Addr) (c2 : Nat) (h2 : St Zf [ObA 5 (.slice A2 b.length c2) b] w w2) (hc2 : b.length ≤ c2) => lowOpen_yes hgood h2 h2.ob.reads.2.1 (HT.out.below h2.bel HT.out.1) HBL.out hc2
    obtain ⟨K, hK⟩ : ∃ x : Int, x = (hd b 4 1 : Nat) := ⟨_, rfl⟩
    obtain ⟨V, hV⟩ : ∃ x : Int, x = (hd b 5 1 : Nat) := ⟨_, rfl⟩
    obtain ⟨s, hs⟩ : ∃ x, x = hd b 6 2 := ⟨_, rfl⟩
    obtain ⟨n, hn⟩ : ∃ x, x = hd b 8 4 := ⟨_, rfl⟩
    obtain ⟨R0, hR0⟩ : ∃ x, x = b.drop 16 := ⟨_, rfl⟩
    rw [← hK, ← hV, ← hs, ← hn, ← hR0] at HG
    rw [← hs] at hs1 hs2
    rw [← hs, ← hn, ← hR0] at hw0
    have HS := Lib.hid (And.intro hs1 hs2)
    have HW0 := Lib.hid hw0
    clear hgood hw0 hs1 hs2 hK hV hs hn hR0
    go_enter Tryd.func9, Tryd.ntmps9
    go_upto_region 6 with (first
      | (go_at_call 11; refine (speaks9_any w HT.out).mono ?_; rintro e w1 ⟨rfl, hb1⟩; have HB1 := Lib.hid hb1; clear hb1)
      | (go_at_call 18; refine (HCL.out w1 HB1.out).mono ?_; rintro e w2 ⟨v2, rfl, ho2, hb2⟩; have h2 := ((St.start Zf w).below HB1.out).newOb ho2 hb2; obtain ⟨A2, c2, rfl, hc2, -, -, -⟩ := ho2.form; have HO := Lib.hid (HG.out w2 A2 c2 h2 hc2); clear h2 ho2 hb2 hc2)
      | (go_at_call 19; refine (HO.out).mono ?_; rintro e w3 ⟨g, rfl, h3⟩; have H3 := Lib.hid h3.swap.drop; clear h3))
    clear HG HO HCL HB1
    go_wp2_with fail
    go_loopw [27] (fun i wr => ∃ (k lw : Nat) (R : List Nat), k ≤ O.length ∧ i = .int .i64 k ∧ RW R s n lw ∧ St Zf [RfA g K V (s : Int) R (liveN R s n : Nat) (lw : Int)] w wr) (fun i _ => O.length - (intOf i).toNat)
    case atStart => exact ⟨0, 0, R0, Nat.zero_le _, rfl, HW0.out, H3.out⟩
    case round =>
      obtain ⟨k, lw, R, hk, rfl, hw, hst⟩ := hrel
      clear H3 HW0
      by_cases hlt : k < O.length
      · obtain ⟨bo, off, rfl, -, hcs⟩ := (hst.rl HRO.out (Nat.le_refl _)).allI (by omega)
        have hc := hcs k hlt
        obtain ⟨y, hy⟩ : ∃ y, y = nthI O k := ⟨_, rfl⟩
        rw [← hy] at hc
        have hkw : wrap64 ((k : Int) + 1) = (k : Int) + 1 := rfwrap (by omega) (by have := HOL.out; omega)
        have hlle := liveN_le (R := R) s n
        have hn6 := hw.few
        have hRl := hw.len
        have HST := Lib.hid hst
        by_cases hu : usedB R s n y = true
        · obtain ⟨i, rfl, hi, hf⟩ := usedB_lt' hu
          obtain ⟨hw2, hl2⟩ := hw.free (Nat.lt_of_lt_of_le (by decide) HS.out.1) hi hf
          have HFR := Lib.hid (rfFree_ok hst HS.out.1 HS.out.2 hRl hn6 hu (Int.natCast_nonneg _) (by omega))
          rw [hl2] at HFR
          have HW2 := Lib.hid hw2
          clear hcs hst hy hlle hn6 hRl hu hf hw hw2 hl2 hi
          go_wp2_with (go_at_call 25; refine (HFR.out).mono ?_; rintro e w5 ⟨rfl, h5⟩; have H5 := Lib.hid h5; clear h5)
          go_roundw
          case rel => exact ⟨k + 1, _, _, hlt, by go_num, HW2.out, H5.out⟩
          case measure => first | exact meas_lt hlt | (rw [hkw]; exact meas_lt hlt)
        · have hu' : usedB R s n y = false := by simpa using hu
          have HFR := Lib.hid (rfFree_no hst HS.out.1 HS.out.2 hRl hn6 hu')
          have HW2 := Lib.hid hw
          clear hcs hst hy hlle hn6 hRl hu hu' hw
          go_wp2_with (go_at_call 25; refine (HFR.out).mono ?_; rintro e w5 ⟨rfl, h5⟩; have H5 := Lib.hid h5; clear h5)
          go_roundw
          case rel => exact ⟨k + 1, _, _, hlt, by go_num, HW2.out, H5.out⟩
          case measure => first | exact meas_lt hlt | (rw [hkw]; exact meas_lt hlt)
      · obtain rfl : k = O.length := by omega
        have hlle := liveN_le (R := R) s n
        have hn6 := hw.few
        have hRl := hw.len
        by_cases hfull : liveN R s n = 65536
        · rw [hfull] at hst
          have hst2 : St Zf [RfA g K V (s : Int) R 65536 (lw : Int)] w wr := hst
          have HL := Lib.hid (rfLive_any hst2)
          have HA := Lib.hid (rfAlloc_full (n := 0) hst2)
          have HB := Lib.hid hst2.bel
          clear hst hst2 hfull hlle hn6 hRl hw
          go_wp2_with (first
            | (go_at_call 27; refine (HL.out).mono ?_; rintro e w5 ⟨rfl, rfl⟩)
            | (go_at_call 24; refine (HA.out).mono ?_; rintro e w6 ⟨rfl, rfl⟩))
          go_ret
          exact ⟨rfl, HB.out⟩
        · obtain ⟨m, hm⟩ : ∃ m : Int, m = (liveN R s n : Nat) := ⟨_, rfl⟩
          have hm0 : 0 ≤ m := by omega
          have hm1 : m ≤ 65535 := by omega
          rw [← hm] at hst
          have HL := Lib.hid (rfLive_any hst)
          have HA := Lib.hid (rfAlloc_ok hst HS.out.1 HS.out.2 hRl hn6 hm0 hm1 hw.low)
          have HW := Lib.hid hw
          have HNF := Lib.hid hfull
          have HM := Lib.hid (And.intro hm0 hm1)
          have mw : wrap64 (m + 1) = m + 1 := rfwrap (by omega) (by omega)
          clear hst hfull hlle hn6 hRl hw hm hm0 hm1
          go_upto_region 15 with (first
            | (go_at_call 27; refine (HL.out).mono ?_; rintro e w5 ⟨rfl, rfl⟩)
            | (go_at_call 24; refine (HA.out).mono ?_; rintro e w6 ⟨F, hF1, hF2, hFa, hFu, rfl, h6⟩; have hw6 := (HW.out.take (Nat.lt_of_lt_of_le (by decide) HS.out.1) hF2 hF1 hFa hFu HNF.out).1; have HW6 := Lib.hid hw6; have H6 := Lib.hid h6; clear h6 hw6 hF1 hF2 hFa hFu))
          obtain ⟨R2, hR2⟩ : ∃ x, x = (growR R (F * s + s)).set (F * s) 1 := ⟨_, rfl⟩
          obtain ⟨n2, hn2⟩ : ∃ x, x = max n (F + 1) := ⟨_, rfl⟩
          rw [← hR2] at H6 HW6
          rw [← hn2] at HW6
          clear hR2 hn2 HL HA HW HNF
          have hF2 : F < n2 := HW6.out.low
          have HG := Lib.hid fun (w' : World) (j : Nat) (hj : j ≤ F) (h' : St Zf [RfA g K V (s : Int) R2 (m + 1) ((F + 1 : Nat) : Int)] w w') => rfGet_ok (id := j) h' HS.out.1 HS.out.2 HW6.out.len HW6.out.few (by rw [usedB_in (Nat.lt_of_le_of_lt hj hF2)]; exact decide_eq_true (HW6.out.below j (Nat.lt_succ_of_le hj)))
          have HFR := Lib.hid fun (w' : World) (h' : St Zf [RfA g K V (s : Int) R2 (m + 1) ((F + 1 : Nat) : Int)] w w') => rfFree_ok (id := F) h' HS.out.1 HS.out.2 HW6.out.len HW6.out.few (by rw [usedB_in hF2]; exact decide_eq_true (HW6.out.below F (Nat.lt_succ_self F))) (by have := HM.out; omega) (by have := HM.out; omega)
          have HF6 : Hid (F < 65536) := Lib.hid (Nat.lt_of_lt_of_le hF2 HW6.out.few)
          clear hF2 HW6
          go_wp2_with fail
          go_loopw [12] (fun i wr => ∃ k : Nat, k ≤ F ∧ i = .int .i64 k ∧ St Zf [RfA g K V (s : Int) R2 (m + 1) ((F + 1 : Nat) : Int)] w wr) (fun i _ => F - (intOf i).toNat)
          case atStart => exact ⟨0, Nat.zero_le _, rfl, H6.out⟩
          case round =>
            obtain ⟨k, hk, rfl, hst⟩ := hrel
            clear H6
            by_cases hlt2 : k < F
            · have HGG := Lib.hid (HG.out wr k hk hst)
              have hkw : wrap64 ((k : Int) + 1) = (k : Int) + 1 := rfwrap (by omega) (by have := HF6.out; omega)
              clear hst
              go_wp2_with (go_at_call 29; refine (HGG.out).mono ?_; rintro e w7 ⟨v7, rfl, h7⟩; obtain ⟨A7, c7, rfl, -, -, -, -⟩ := h7.ob.form; have H7 := Lib.hid h7.drop; clear h7)
              go_roundw
              case rel => exact ⟨k + 1, hlt2, by go_num, H7.out⟩
              case measure => first | exact meas_lt hlt2 | (rw [hkw]; exact meas_lt hlt2)
            · obtain rfl : k = F := by omega
              have HGG := Lib.hid (HG.out wr k (Nat.le_refl _) hst)
              clear hst
              go_wp2_with (first
                | (go_at_call 29; refine (HGG.out).mono ?_; rintro e w7 ⟨v7, rfl, h7⟩; obtain ⟨A7, c7, rfl, -, -, -, -⟩ := h7.ob.form; have H7 := Lib.hid h7.drop; have HL7 := Lib.hid (rfLive_any h7.drop); have HF7 := Lib.hid (HFR.out w7 h7.drop); clear h7)
                | (go_at_call 27; (with_reducible refine (HL7.out).mono ?_); rintro e w8 ⟨rfl, rfl⟩)
                | (go_at_call 25; refine (HF7.out).mono ?_; rintro e w9 ⟨rfl, h9⟩; rw [Int.add_sub_cancel] at h9; have HL9 := Lib.hid (rfLive_any h9); have HB9 := Lib.hid h9.bel; clear h9)
                | (go_at_call 27; (with_reducible refine (HL9.out).mono ?_); rintro e w10 ⟨rfl, rfl⟩))
              go_ret
              exact ⟨rfl, HB9.out⟩

/-! ### THE ROW's STEP -/
theorem own : ownKnob Tryd.prog.godebug = none := by kernel_rfl
theorem laidOut : laidOutB Tryd.prog = true := by kernel_rfl

set_option maxRecDepth 100000 in
set_option maxRecDepth 100000 in
theorem contract (H : Type) (enc : TypeId × Value → H) (W : World) (base : Nat) (args : Array Value) (ds gs : List (DataW H)) (before : List MemPlace)
    (hval0 : ∀ (j : Nat) t v, Tryd.f9.params[j]? = some t → args[j]? = some v → Value.okWide Tryd.prog W .any base t v)
    (hW : DataW.Whole enc Tryd.prog Tryd.f9.params.toList Rows.recfileLowestSpec.vars false W args.toList ds gs before)
    (hsz : (DataW.weightsEach Tryd.prog (Tryd.f9.params.toList ++ (OpenSpec.ofChange Rows.recfileLowestSpec).bare.plain.varTypes Tryd.prog) (ds ++ gs)).all (· ≤ reachBytes) = true) (hL : laidMetH Tryd.prog Rows.recfileLowestRow.laid W) :
    Calls Tryd.prog 9 args W fun e W' => ∃ v, e = .returned v ∧ Rows.recfileLowestSpec.post enc Tryd.prog Tryd.f9 false true false false W args v W' := by
  have hval : ∀ (j : Nat) t v, Tryd.f9.params[j]? = some t → args[j]? = some v → Value.okWide Tryd.prog W .any base t v := hval0
  have hW' := hW
  have hTab := Lib.hid (tabs_of hL)
  clear hL
  obtain ⟨p, q, hA0, hV, rfl, hfz, hnd⟩ := hW
  have hA : DataW.TrodAll enc Tryd.prog W 0 (fun _ => true) true Tryd.f9.params.toList args.toList ds p := hA0
  rw [Tryd.params9] at hA hval
  obtain ⟨v0, vs0, d0, ds0, p0, q0, hargs, rfl, rfl, h0, r0⟩ := trodAll_cons hA
  obtain ⟨v1, vs1, d1, ds1, p1, q1, rfl, rfl, rfl, h1, r1⟩ := trodAll_cons r0
  obtain ⟨rfl, rfl, rfl⟩ := trodAll_nil r1
  obtain rfl : args = #[v0, v1] := by cases args; simp_all
  obtain ⟨rfl, rfl⟩ := trodVars_none hV
  have k0 := h0
  have lt0 : ∀ x ∈ p0, x.block < W.heap.size := by obtain ⟨m, hm⟩ := k0; exact DataW.trod_lt m _ _ _ hm
  have w0 := reach_at hsz (j := 0) rfl rfl
  have k1 := h1
  have lt1 : ∀ x ∈ p1, x.block < W.heap.size := by obtain ⟨m, hm⟩ := k1; exact DataW.trod_lt m _ _ _ hm
  have w1 := reach_at hsz (j := 1) rfl rfl
  clear hA0 hval0 hsz
  obtain ⟨A0, n0, c0, rfl⟩ := okWide_slice Tryd.underlying34 (hval 0 34 v0 rfl rfl)
  obtain ⟨b0, rfl, rb0, cb0, mb0⟩ := open_bytes Tryd.underlying34 Tryd.underlying5 (by kernel_rfl) (by kernel_rfl) w0 h0
  obtain ⟨A1, L1, c1, rfl, hx1⟩ := open_ids (hval 1 _ v1 rfl rfl) w1 h1 lt1
  refine (walk W hTab.out rb0 cb0 mb0 hx1).mono fun e W' ⟨he, bel⟩ => ?_
  subst he
  exact ⟨_, rfl, _, _, _, [], _, [], hW', trodAll_mk1 (shut_bool Tryd.underlying4 _), (trodAll_cons_mk (Below.trod laidOut (by kernel_rfl) (of_decide_eq_true (by kernel_rfl)) k0 bel lt0) (trodAll_cons_mk (Below.trod laidOut (by kernel_rfl) (of_decide_eq_true (by kernel_rfl)) k1 bel lt1) trodAll_mk0)), rfl, bel.frame _, fun h => by cases h⟩

set_option maxRecDepth 100000 in
theorem laid_met (os : Os) : laidMet Tryd.prog Rows.recfileLowestRow.laid ((laidWorldN os).forCall (fun _ _ => 0) ⟨#[], #[.slice none 0 0, .slice none 0 0], []⟩).memory :=
  laidMet_of_run3 8 (by kernel_rfl) (by kernel_rfl) (by kernel_rfl)
theorem reads (os : Os) {H : Type} (enc : TypeId × Value → H) : ∃ places, DataW.whole enc Tryd.prog ((laidWorldN os).forCall (fun _ _ => 0) ⟨#[], #[.slice none 0 0, .slice none 0 0], []⟩).memory Tryd.f9.params.toList Rows.recfileLowestSpec.vars false (#[.slice none 0 0, .slice none 0 0] : Array Value).toList 8 = some ([.nil, .nil], [], places) :=
  ⟨[], by kernel_rfl⟩

set_option maxRecDepth 100000 in
theorem lifted (os : Os) (started : os.Started) (H : Type) (enc : TypeId × Value → H) (F : Stop.Interp) :
    ReturnsInHanded {} Tryd.checked os 9 .any ((OpenSpec.ofChange Rows.recfileLowestSpec).preRow enc Tryd.prog Tryd.f9 Rows.recfileLowestRow.domain false Rows.recfileLowestRow.laid) (((OpenSpec.ofChange Rows.recfileLowestSpec).at F).post enc Tryd.prog Tryd.f9 false true false false) := by
  obtain ⟨places, hx⟩ := reads os enc
  refine returnsInHanded_of_row (C := Tryd.checked) (s := (OpenSpec.ofChange Rows.recfileLowestSpec)) own started (by kernel_rfl) Tryd.func9
    (witness_row_at (enc := enc) (C := Tryd.checked) false (laidWorldN os) #[.slice none 0 0, .slice none 0 0] rfl (by kernel_rfl) (by kernel_rfl) (by kernel_rfl)
      (OpenSpec.preRow_of_cond 8 hx (by kernel_rfl) (fun k hk => by cases hk) (by kernel_rfl) (laid_met os))) ?_
  intro W base args ds gs before hval hW _ hcond hsz hL _ _
  exact contract H enc W base args ds gs before hval hW hsz hL

theorem said : Rows.RecfileLowestSaid :=
  OpenClaim.holds_of_cond 9 Tryd.f9 rfl rfl rfl rfl rfl rfl rfl ⟨rfl, rfl, rfl, rfl, rfl⟩ rfl rfl rfl rfl rfl (by kernel_rfl) Tryd.func9 (by kernel_rfl)
    (of_decide_eq_true (by kernel_rfl)) (by unfold Func.isWrapper; rw [if_neg (of_decide_eq_false (by kernel_rfl))]; exact ⟨rfl, rfl⟩)
    (fun os started H enc _ F => by rw [OpenClaim.pre_eq_preRow]; exact lifted os started H enc F)

theorem noStandIn : ∀ t ∈ ([34, 53] : List TypeId), Tryd.prog.wantsStandIn t = false := by
  intro t ht
  simp only [List.mem_cons, List.not_mem_nil, or_false] at ht
  rcases ht with rfl | rfl
  · exact (show Tryd.prog.wantsStandIn 34 = false by kernel_rfl)
  · exact (show Tryd.prog.wantsStandIn 53 = false by kernel_rfl)
theorem plain (f : FuncId) (fn : Func) (hf : Tryd.pinned.checked.prog.funcNamed "satchel/satchellaw09.RecfileLowest" = some f) (hfn : Tryd.pinned.checked.prog.funcs[f]? = some fn) :
    false = Tryd.pinned.checked.prog.looks [] ∧ ∀ (j : Nat) t, fn.params[j]? = some t → Tryd.pinned.checked.prog.wantsStandIn t = false := by
  obtain rfl : f = 9 := Option.some.inj ((show Tryd.prog.funcNamed "satchel/satchellaw09.RecfileLowest" = some 9 by kernel_rfl).symm.trans hf) |>.symm
  obtain rfl : fn = Tryd.f9 := (Option.some.inj (Tryd.func9.symm.trans hfn)).symm
  refine ⟨by kernel_rfl, fun j t ht => ?_⟩
  rw [Tryd.params9] at ht
  exact noStandIn t (by simpa using Array.mem_of_getElem? ht)

/-- THE CARD -/
theorem proved : Rows.RecfileLowestCardSaid :=
  Claim7.holds_tied_plain_at .later [] _ _ _ _ said (fun _ h => by cases h) (by kernel_rfl) (fun _ h => by cases h) recfileLowest_row_tie rfl ⟨rfl, rfl⟩ (by kernel_rfl) rfl plain (by kernel_rfl)
end Go.Proofs.YtkmokghioagccaaDoor.recfileLowest
