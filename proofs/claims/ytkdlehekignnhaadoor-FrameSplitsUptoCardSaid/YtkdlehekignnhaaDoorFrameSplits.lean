/- Any bytes are split into frames, or refused, as the document says; they stay. The table of nibbles stands as the program's text lays it (the card ties it). -/
import Derived.Test.YtkdlehekignnhaaDoorOpen
import Derived.Test.YtkdlehekignnhaaDoorCards
import Derived.Test.YtkdlehekignnhaaDoorTie
import Derived.Deep.DeepHandedRow
import Derived.Lib.LaidTab
import Derived.Test.YtkdlehekignnhaaDoorBulk
import Derived.Deep.CondSized
import Derived.Test.YtkdlehekignnhaaDoorFrRef3
import Derived.Test.YtkdlehekignnhaaDoorBulk
namespace Go.Proofs.YtkdlehekignnhaaDoor.frameSplits
open Go.ChangeShapes Go.WideShapes Go.ChangeAt Go.RowKit
open Go.ChangeMaps (open_string shut_string)
set_option linter.unusedVariables false
set_option linter.unusedSimpArgs false

set_option maxRecDepth 100000 in
set_option maxHeartbeats 1000000 in
theorem walk (w : World) (hT : TabW w) {A : Option Addr} {cap : Nat} {xs : List Nat} (r : RB w w.heap.size A xs) (hc : xs.length ≤ cap) (hm : cap ≤ 140737488351232) (hu : xs.length + 1 ≤ 1048576) :
    Calls Tryd.prog 5 #[.slice A xs.length cap] w fun e w' => e = .returned (.bool true) ∧ Below w.heap.size w w' := by
  have HT := Lib.hid hT
  have HR := Lib.hid r
  obtain ⟨L, hL⟩ : ∃ L, xs.length = L := ⟨_, rfl⟩
  have HL := Lib.hid hL
  have hLm : L ≤ 1048576 := by omega
  have hLc : L ≤ cap := by omega
  rw [hL]
  clear r hc hu hL
  go_enter Tryd.func5, Tryd.ntmps5
  go_wp2_with fail
  refine (speaks19_any _ hT).mono ?_
  rintro e w1 ⟨rfl, hb1⟩
  have h1 := (St.start Zf w).below hb1
  have hcl := cloneA h1 (cap := cap) (HR.out.below' hb1 (Nat.le_refl _)) hb1.size (by rw [HL.out]; omega)
  rw [HL.out] at hcl
  have HCl := Lib.hid hcl
  clear hb1 h1 hcl hT
  go_wp2_with fail
  refine HCl.out.mono ?_
  rintro e w2 ⟨A2, c2, rfl, hc2, hm2, h2⟩
  have hsp := Split_any A2 c2 _ xs w2 (HT.out.below h2.bel HT.out.1) (by have := h2.obR; exact this.2.2.2) (Nat.le_refl _) (by rw [HL.out]; exact hc2) hm2 (by rw [HL.out]; omega)
  rw [HL.out] at hsp
  have HSp := Lib.hid hsp
  have H2 := Lib.hid h2
  clear h2 hsp HCl
  go_wp2_with fail
  refine HSp.out.mono ?_
  rintro e w3 ⟨v3, X3, rfl, h3, hX3⟩
  have h4 := H2.out.addStL h3
  have hrs := refSplit_any A cap _ xs w3 (HR.out.below' h4.bel (Nat.le_refl _)) h4.size (by rw [HL.out]; exact hLc) (by unfold maxLen; omega) (by rw [HL.out]; omega)
  rw [HL.out] at hrs
  have HRs := Lib.hid hrs
  have H4 := Lib.hid h4
  have HX3 := Lib.hid hX3
  clear h3 h4 hrs hX3 H2 HSp
  go_wp2_with fail
  refine HRs.out.mono ?_
  rintro e w5 ⟨v5, X5, rfl, h5, hX5⟩
  have h6 := H4.out.addStL h5
  have hfew : 9 * X3.length ≤ xs.length := by
    have h1 := frs_len xs
    have h2 := congrArg List.length HX3.out
    rw [List.length_map] at h2
    split at h2
    · omega
    · rw [List.length_nil] at h2
      omega
  have HSa := Lib.hid (refSameAll_yes h6.swap (by rw [HX3.out, hX5]) (by rw [HL.out] at hfew; omega))
  have H6 := Lib.hid h6.swap
  clear h5 h6 hX5 hfew HRs H4
  generalize (frs xs).2 = ee at *
  go_wp2_with fail
  refine HSa.out.mono ?_
  rintro e w7 ⟨rfl, hb7⟩
  have h8 := H6.out.below hb7
  have hsm := same_yes A2 A L c2 cap _ _ xs w7 h8.drop.drop.obR.2.2.2 (HR.out.below' h8.bel (Nat.le_refl _)) HL.out (by unfold maxLen; omega)
  have HSm := Lib.hid hsm
  have HE := Lib.hid h8.bel
  clear hsm h8 hb7 H6 HSa
  go_wp2_with fail
  refine HSm.out.mono ?_
  rintro e w9 ⟨rfl, q9, rfl⟩
  have HE9 := Lib.hid (below_drewN HE.out q9)
  clear HSm
  go_wp2_with fail
  go_ret
  exact ⟨rfl, HE9.out⟩

/-! ### THE ROW's STEP -/
theorem own : ownKnob Tryd.prog.godebug = none := by kernel_rfl
theorem laidOut : laidOutB Tryd.prog = true := by kernel_rfl
theorem gTab0 : Tryd.prog.globalNamed "satchel/crc.nibbles" = some 0 := by kernel_rfl
theorem gTabType0 : (Tryd.prog.globals[0]?).map (·.type) = some 87 := by kernel_rfl
theorem cellsTab0 : Tryd.prog.cellsOf 87 = 16 := by kernel_rfl
theorem cellsElem0 : Tryd.prog.cellsOf 66 = 1 := by kernel_rfl
theorem table0 {W : World} (h : laidMetH Tryd.prog Rows.frameSplitsUptoRow.laid W) : Lib.TabIs Tryd.prog W "satchel/crc.nibbles" .u32 [0, 498536548, 997073096, 651767980, 1994146192, 1802195444, 1303535960, 1342533948, 3988292384, 4027552580, 3604390888, 3412177804, 2607071920, 2262029012, 2685067896, 3183342108] :=
  Lib.tabIs_of_head gTab0 gTabType0 Tryd.underlying87 Tryd.underlying66 cellsElem0 cellsTab0 h

set_option maxRecDepth 100000 in
theorem contract (H : Type) (enc : TypeId × Value → H) (W : World) (base : Nat) (args : Array Value) (ds gs : List (DataW H)) (before : List MemPlace)
    (hval0 : ∀ (j : Nat) t v, Tryd.f5.params[j]? = some t → args[j]? = some v → Value.okWide Tryd.prog W .any base t v)
    (hW : DataW.Whole enc Tryd.prog Tryd.f5.params.toList Rows.frameSplitsSpec.vars false W args.toList ds gs before)
    (hk : Rows.uptoSmall H (ds ++ gs) = true)
    (hsz : (DataW.weightsEach Tryd.prog (Tryd.f5.params.toList ++ (Rows.OpenSpec.upto Rows.frameSplitsSpec).bare.plain.varTypes Tryd.prog) (ds ++ gs)).all (· ≤ reachBytes) = true) (hL : laidMetH Tryd.prog Rows.frameSplitsUptoRow.laid W) :
    Calls Tryd.prog 5 args W fun e W' => ∃ v, e = .returned v ∧ Rows.frameSplitsSpec.post enc Tryd.prog Tryd.f5 false true false false W args v W' := by
  have hval : ∀ (j : Nat) t v, Tryd.f5.params[j]? = some t → args[j]? = some v → Value.okWide Tryd.prog W .any base t v := hval0
  have hW' := hW
  obtain ⟨p, q, hA0, hV, rfl, hfz, hnd⟩ := hW
  have hA : DataW.TrodAll enc Tryd.prog W 0 (fun _ => true) true Tryd.f5.params.toList args.toList ds p := hA0
  rw [Tryd.params5] at hA hval
  obtain ⟨v0, vs0, d0, ds0, p0, q0, hargs, rfl, rfl, h0, r0⟩ := trodAll_cons hA
  obtain ⟨rfl, rfl, rfl⟩ := trodAll_nil r0
  obtain rfl : args = #[v0] := by cases args; simp_all
  obtain ⟨rfl, rfl⟩ := trodVars_none hV
  have k0 := h0
  have lt0 : ∀ x ∈ p0, x.block < W.heap.size := by obtain ⟨m, hm⟩ := k0; exact DataW.trod_lt m _ _ _ hm
  have w0 := reach_at hsz (j := 0) rfl rfl
  have u0 : Rows.uptoBulk d0 ≤ 1048576 := bulk_at hk (by simp)
  clear hA0 hval0 hsz
  have hT := tabW_of fun i hi => (table0 hL).cell gTab0 i hi
  obtain ⟨A0, n0, c0, rfl⟩ := okWide_slice Tryd.underlying23 (hval 0 23 v0 rfl rfl)
  have ub0 := Nat.le_trans (bytes_bulk Tryd.underlying23 Tryd.underlying5 (by kernel_rfl) k0) u0
  obtain ⟨b0, rfl, rb0, cb0, mb0⟩ := open_bytes Tryd.underlying23 Tryd.underlying5 (by kernel_rfl) (by kernel_rfl) w0 h0
  refine (walk W hT rb0 cb0 mb0 ub0).mono fun e W' ⟨he, bel⟩ => ?_
  subst he
  exact ⟨_, rfl, _, _, _, [], _, [], hW', trodAll_mk1 (shut_bool Tryd.underlying4 _), (trodAll_cons_mk (Below.trod laidOut (by kernel_rfl) (of_decide_eq_true (by kernel_rfl)) k0 bel lt0) trodAll_mk0), rfl, bel.frame _, fun h => by cases h⟩

/-- a world for the witness: the settled one, the tables holding what their initialisers lay -/
noncomputable def laidWorld (os : Os) : World :=
  { World.holding Tryd.prog os ⟨#[], #[], []⟩ with heap := ((World.holding Tryd.prog os ⟨#[], #[], []⟩).heap.modify 0 (fun | .cells _ t frozen => .cells #[.int .u32 0, .int .u32 498536548, .int .u32 997073096, .int .u32 651767980, .int .u32 1994146192, .int .u32 1802195444, .int .u32 1303535960, .int .u32 1342533948, .int .u32 3988292384, .int .u32 4027552580, .int .u32 3604390888, .int .u32 3412177804, .int .u32 2607071920, .int .u32 2262029012, .int .u32 2685067896, .int .u32 3183342108] t frozen | o => o)) }
theorem laid_met (os : Os) : laidMet Tryd.prog Rows.frameSplitsUptoRow.laid ((laidWorld os).forCall (fun _ _ => 0) ⟨#[], #[.slice none 0 0], []⟩).memory :=
  laidMet_of_run' 8 (by kernel_rfl) (by kernel_rfl)
theorem reads (os : Os) {H : Type} (enc : TypeId × Value → H) : ∃ places, DataW.whole enc Tryd.prog ((laidWorld os).forCall (fun _ _ => 0) ⟨#[], #[.slice none 0 0], []⟩).memory Tryd.f5.params.toList Rows.frameSplitsSpec.vars false (#[.slice none 0 0] : Array Value).toList 8 = some ([.nil], [], places) :=
  ⟨[], by kernel_rfl⟩

set_option maxRecDepth 100000 in
theorem lifted (os : Os) (started : os.Started) (H : Type) (enc : TypeId × Value → H) (F : Stop.Interp) :
    ReturnsInHanded {} Tryd.checked os 5 .any ((Rows.OpenSpec.upto Rows.frameSplitsSpec).preRow enc Tryd.prog Tryd.f5 Rows.frameSplitsUptoRow.domain false Rows.frameSplitsUptoRow.laid) (((Rows.OpenSpec.upto Rows.frameSplitsSpec).at F).post enc Tryd.prog Tryd.f5 false true false false) := by
  obtain ⟨places, hx⟩ := reads os enc
  refine returnsInHanded_of_row (C := Tryd.checked) (s := (Rows.OpenSpec.upto Rows.frameSplitsSpec)) own started (by kernel_rfl) Tryd.func5
    (witness_row_at (enc := enc) (C := Tryd.checked) false (laidWorld os) #[.slice none 0 0] rfl (by kernel_rfl) (by kernel_rfl) (by kernel_rfl)
      (OpenSpec.preRow_of_cond 8 hx (by kernel_rfl) (fun k hk => by cases hk; kernel_rfl) (by kernel_rfl) (laid_met os))) ?_
  intro W base args ds gs before hval hW _ hcond hsz hL _ _
  exact contract H enc W base args ds gs before hval hW (hcond _ rfl) hsz hL

theorem said : Rows.FrameSplitsUptoSaid :=
  OpenClaim.holds_of_cond 5 Tryd.f5 rfl rfl rfl rfl rfl rfl rfl ⟨rfl, rfl, rfl, rfl, rfl⟩ rfl rfl rfl rfl rfl (by kernel_rfl) Tryd.func5 (by kernel_rfl)
    (of_decide_eq_true (by kernel_rfl)) (by unfold Func.isWrapper; rw [if_neg (of_decide_eq_false (by kernel_rfl))]; exact ⟨rfl, rfl⟩)
    (fun os started H enc _ F => by rw [OpenClaim.pre_eq_preRow]; exact lifted os started H enc F)

theorem noStandIn : ∀ t ∈ ([23] : List TypeId), Tryd.prog.wantsStandIn t = false := by
  intro t ht
  simp only [List.mem_cons, List.not_mem_nil, or_false] at ht
  rcases ht with rfl
  · exact (show Tryd.prog.wantsStandIn 23 = false by kernel_rfl)
theorem plain (f : FuncId) (fn : Func) (hf : Tryd.pinned.checked.prog.funcNamed "satchel/satchellaw19.FrameSplits" = some f) (hfn : Tryd.pinned.checked.prog.funcs[f]? = some fn) :
    false = Tryd.pinned.checked.prog.looks [] ∧ ∀ (j : Nat) t, fn.params[j]? = some t → Tryd.pinned.checked.prog.wantsStandIn t = false := by
  obtain rfl : f = 5 := Option.some.inj ((show Tryd.prog.funcNamed "satchel/satchellaw19.FrameSplits" = some 5 by kernel_rfl).symm.trans hf) |>.symm
  obtain rfl : fn = Tryd.f5 := (Option.some.inj (Tryd.func5.symm.trans hfn)).symm
  refine ⟨by kernel_rfl, fun j t ht => ?_⟩
  rw [Tryd.params5] at ht
  exact noStandIn t (by simpa using Array.mem_of_getElem? ht)

/-- THE CARD -/
theorem proved : Rows.FrameSplitsUptoCardSaid :=
  Claim7.holds_tied_plain_at .later [] _ _ _ _ said (fun _ h => by cases h) (by kernel_rfl) (fun _ h => by cases h) frameSplitsUpto_row_tie rfl ⟨rfl, rfl⟩ (by kernel_rfl) rfl plain (by kernel_rfl)
end Go.Proofs.YtkdlehekignnhaaDoor.frameSplits
