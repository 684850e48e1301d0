/- For all two slices of bytes (of together at most 1048576 values): in two parts, by Update and by Combine, the sum is the whole's. The table of nibbles stands as the program's text lays it (the card ties it). -/
import Derived.Test.YtgigdflebjnihaaDoorOpen
import Derived.Test.YtgigdflebjnihaaDoorCards
import Derived.Test.YtgigdflebjnihaaDoorTie
import Derived.Deep.DeepHandedRow
import Derived.Lib.LaidTab
import Derived.Test.YtgigdflebjnihaaDoorBulk
import Derived.Deep.CondSized
import Derived.Test.YtgigdflebjnihaaDoorCrcTwo
namespace Go.Proofs.YtgigdflebjnihaaDoor.crcSplits
open Go.ChangeShapes Go.WideShapes Go.ChangeAt Go.RowKit
open Go.ChangeMaps (open_string shut_string)
set_option linter.unusedVariables false

set_option maxRecDepth 100000 in
set_option maxHeartbeats 1000000 in
theorem walk (w : World) (hT : TabW w) {A : Option Addr} {cap : Nat} {xs : List Nat} (r : RB w w.heap.size A xs) (hc : xs.length ≤ cap) (hm : cap ≤ 140737488351232) (hu : xs.length + 1 ≤ 1048576)
    {B : Option Addr} {cap2 : Nat} {ys : List Nat} (r2 : RB w w.heap.size B ys) (hc2 : ys.length ≤ cap2) (hm2 : cap2 ≤ 140737488351232) (hu2 : ys.length + 1 ≤ 1048576) :
    Calls Tryd.prog 6 #[.slice A xs.length cap, .slice B ys.length cap2] w fun e w' => e = .returned (.bool true) ∧ Below w.heap.size w w' := by
  obtain ⟨i0, hi, hz0, hz1, hz2⟩ := info_parts u8_info
  have hpos := hT.1
  have hlx : Hid (xs.length ≤ maxLen) := Lib.hid (by unfold maxLen; omega)
  have hly : Hid (ys.length ≤ maxLen) := Lib.hid (by unfold maxLen; omega)
  go_enter Tryd.func6, Tryd.ntmps6
  go_wp2_with fail
  refine (speaks_any w hT).mono ?_
  rintro e w1 ⟨rfl, hb1⟩
  have hT1 := hT.below hb1 hT.1
  go_wp2_with fail
  refine (clone_any A cap w.heap.size xs w1 (r.below hb1) hb1.size (by omega)).mono ?_
  rintro e w2 ⟨v2, rfl, ho2, hb2⟩
  have hB2 := hb1.trans (hb2.mono hb1.size)
  have hs1 := hb1.size
  have hs2 := hb2.size
  go_wp2_with (at_builtin; refine wpList_append_bytes _ rfl _ _ 22 rfl w1.heap.size 5 i0 Tryd.underlying22 hi hz0 hz1 hz2 v2 xs (by rfl) ho2 B cap2 w.heap.size ys ys.length rfl (by rfl) (r2.below hB2) (by omega) hs2 ?_; intro v3 w3 ho3 hg3 hat3)
  have hb3 : Below w1.heap.size w1 w3 := ho2.belowTo hb2 (Nat.le_refl _) hg3 hs2
  have hB3 := hb1.trans (hb3.mono hs1)
  obtain ⟨zs, hz⟩ : ∃ zs, zs = xs ++ ys := ⟨_, rfl⟩
  have hzl : zs.length ≤ 2097152 := by rw [hz, List.length_append]; omega
  have hlz : Hid (zs.length ≤ maxLen) := Lib.hid (by unfold maxLen; omega)
  rw [← hz] at ho3
  obtain ⟨A3, c3, rfl, -, -, -, -⟩ := ho3.form
  have hT3 := hT.below hB3 hT.1
  have hu1 : crcFrom (crc xs) ys = crc zs := by rw [hz, crc_update]
  have hu3 : comb (crc xs) (crc ys) (ys.length : Int) = crc zs := by rw [hz, ← crc_combine]; unfold comb; rw [Int.toNat_natCast]
  have l1 := crc_lt r.1
  have l2 := crc_lt r2.1
  have e1 : ((crc zs : Int) == (crc zs : Int)) = true := by simp
  have Hz := Lib.hid hz
  have Hu1 := Lib.hid hu1
  have Hu3 := Lib.hid hu3
  clear hz hu1 hu3 ho2 hb2 hB2 hg3 hat3 hb3
  go_wp2_with fail
  refine (Sum_any A3 c3 _ zs w3 hT3 ho3.reads.2.1 hlz.out).mono ?_
  rintro e w4 ⟨rfl, rfl⟩
  have hs3 := hB3.size
  go_wp2_with fail
  refine (clone_any A cap w.heap.size xs w3 (r.below hB3) hs3 (by omega)).mono ?_
  rintro e w5 ⟨v5, rfl, ho5, hb5⟩
  obtain ⟨A5, c5, rfl, -, -, -, -⟩ := ho5.form
  have hB5 := hB3.trans (hb5.mono hs3)
  have hT5 := hT.below hB5 hT.1
  have hs5 := hB5.size
  go_wp2_with fail
  refine (Sum_any A5 c5 _ xs w5 hT5 ho5.reads.2.1 hlx.out).mono ?_
  rintro e w6 ⟨rfl, rfl⟩
  go_wp2_with fail
  refine (clone_any B cap2 w.heap.size ys w5 (r2.below hB5) hs5 (by omega)).mono ?_
  rintro e w7 ⟨v7, rfl, ho7, hb7⟩
  obtain ⟨A7, c7, rfl, -, -, -, -⟩ := ho7.form
  have hB7 := hB5.trans (hb7.mono hs5)
  have hT7 := hT.below hB7 hT.1
  have hs7 := hB7.size
  have HU := Lib.hid (Update_any (crc xs) A7 c7 _ ys w7 hT7 l1 ho7.reads.2.1 hly.out)
  rw [Hu1.out] at HU
  go_wp2_with fail
  refine (HU.out).mono ?_
  rintro e w8 ⟨rfl, rfl⟩
  go_wp2_with fail
  refine (clone_any A cap w.heap.size xs w7 (r.below hB7) hs7 (by omega)).mono ?_
  rintro e w9 ⟨v9, rfl, ho9, hb9⟩
  obtain ⟨A9, c9, rfl, -, -, -, -⟩ := ho9.form
  have hB9 := hB7.trans (hb9.mono hs7)
  have hT9 := hT.below hB9 hT.1
  have hs9 := hB9.size
  go_wp2_with fail
  refine (Sum_any A9 c9 _ xs w9 hT9 ho9.reads.2.1 hlx.out).mono ?_
  rintro e w10 ⟨rfl, rfl⟩
  go_wp2_with fail
  refine (clone_any B cap2 w.heap.size ys w9 (r2.below hB9) hs9 (by omega)).mono ?_
  rintro e w11 ⟨v11, rfl, ho11, hb11⟩
  obtain ⟨A11, c11, rfl, -, -, -, -⟩ := ho11.form
  have hB11 := hB9.trans (hb11.mono hs9)
  have hT11 := hT.below hB11 hT.1
  go_wp2_with fail
  refine (Sum_any A11 c11 _ ys w11 hT11 ho11.reads.2.1 hly.out).mono ?_
  rintro e w12 ⟨rfl, rfl⟩
  have HC := Lib.hid (Combine_any (crc xs) (crc ys) (ys.length : Int) w11 hT11 l1 l2 (by omega) (by omega))
  rw [Hu3.out] at HC
  go_wp2_with fail
  refine (HC.out).mono ?_
  rintro e w13 ⟨rfl, rfl⟩
  go_wp2_with fail
  go_ret
  exact ⟨rfl, hB11⟩

/-! ### THE ROW's STEP -/
theorem own : ownKnob Tryd.prog.godebug = none := by kernel_rfl
theorem laidOut : laidOutB Tryd.prog = true := by kernel_rfl
theorem gTab0 : Tryd.prog.globalNamed "satchel/crc.nibbles" = some 0 := by kernel_rfl
theorem gTabType0 : (Tryd.prog.globals[0]?).map (·.type) = some 49 := by kernel_rfl
theorem cellsTab0 : Tryd.prog.cellsOf 49 = 16 := by kernel_rfl
theorem cellsElem0 : Tryd.prog.cellsOf 24 = 1 := by kernel_rfl
theorem table0 {W : World} (h : laidMetH Tryd.prog Rows.crcSplitsUptoRow.laid W) : Lib.TabIs Tryd.prog W "satchel/crc.nibbles" .u32 [0, 498536548, 997073096, 651767980, 1994146192, 1802195444, 1303535960, 1342533948, 3988292384, 4027552580, 3604390888, 3412177804, 2607071920, 2262029012, 2685067896, 3183342108] :=
  Lib.tabIs_of_head gTab0 gTabType0 Tryd.underlying49 Tryd.underlying24 cellsElem0 cellsTab0 h

theorem contract (H : Type) (enc : TypeId × Value → H) (W : World) (base : Nat) (args : Array Value) (ds gs : List (DataW H)) (before : List MemPlace)
    (hval0 : ∀ (j : Nat) t v, Tryd.f6.params[j]? = some t → args[j]? = some v → Value.okWide Tryd.prog W .any base t v)
    (hW : DataW.Whole enc Tryd.prog Tryd.f6.params.toList Rows.crcSplitsSpec.vars false W args.toList ds gs before)
    (hk : Rows.uptoSmall H (ds ++ gs) = true)
    (hsz : (DataW.weightsEach Tryd.prog (Tryd.f6.params.toList ++ (Rows.OpenSpec.upto Rows.crcSplitsSpec).bare.plain.varTypes Tryd.prog) (ds ++ gs)).all (· ≤ reachBytes) = true) (hL : laidMetH Tryd.prog Rows.crcSplitsUptoRow.laid W) :
    Calls Tryd.prog 6 args W fun e W' => ∃ v, e = .returned v ∧ Rows.crcSplitsSpec.post enc Tryd.prog Tryd.f6 false true false false W args v W' := by
  have hval : ∀ (j : Nat) t v, Tryd.f6.params[j]? = some t → args[j]? = some v → Value.okWide Tryd.prog W .any base t v := hval0
  have hW' := hW
  obtain ⟨p, q, hA0, hV, rfl, hfz, hnd⟩ := hW
  have hA : DataW.TrodAll enc Tryd.prog W 0 (fun _ => true) true Tryd.f6.params.toList args.toList ds p := hA0
  rw [Tryd.params6] at hA hval
  obtain ⟨v0, vs0, d0, ds0, p0, q0, hargs, rfl, rfl, h0, r0⟩ := trodAll_cons hA
  obtain ⟨v1, vs1, d1, ds1, p1, q1, rfl, rfl, rfl, h1, r1⟩ := trodAll_cons r0
  obtain ⟨rfl, rfl, rfl⟩ := trodAll_nil r1
  obtain rfl : args = #[v0, v1] := by cases args; simp_all
  obtain ⟨rfl, rfl⟩ := trodVars_none hV
  have k0 := h0
  have lt0 : ∀ x ∈ p0, x.block < W.heap.size := by obtain ⟨m, hm⟩ := k0; exact DataW.trod_lt m _ _ _ hm
  have w0 := reach_at hsz (j := 0) rfl rfl
  have u0 : Rows.uptoBulk d0 ≤ 1048576 := bulk_at hk (by simp)
  have k1 := h1
  have lt1 : ∀ x ∈ p1, x.block < W.heap.size := by obtain ⟨m, hm⟩ := k1; exact DataW.trod_lt m _ _ _ hm
  have w1 := reach_at hsz (j := 1) rfl rfl
  have u1 : Rows.uptoBulk d1 ≤ 1048576 := bulk_at hk (by simp)
  clear hA0 hval0 hsz
  have hT := tabW_of fun i hi => (table0 hL).cell gTab0 i hi
  obtain ⟨A0, n0, c0, rfl⟩ := okWide_slice Tryd.underlying22 (hval 0 22 v0 rfl rfl)
  have ub0 := Nat.le_trans (bytes_bulk Tryd.underlying22 Tryd.underlying5 (by kernel_rfl) k0) u0
  obtain ⟨b0, rfl, rb0, cb0, mb0⟩ := open_bytes Tryd.underlying22 Tryd.underlying5 (by kernel_rfl) (by kernel_rfl) w0 h0
  obtain ⟨A1, n1, c1, rfl⟩ := okWide_slice Tryd.underlying22 (hval 1 22 v1 rfl rfl)
  have ub1 := Nat.le_trans (bytes_bulk Tryd.underlying22 Tryd.underlying5 (by kernel_rfl) k1) u1
  obtain ⟨b1, rfl, rb1, cb1, mb1⟩ := open_bytes Tryd.underlying22 Tryd.underlying5 (by kernel_rfl) (by kernel_rfl) w1 h1
  refine (walk W hT rb0 cb0 mb0 ub0 rb1 cb1 mb1 ub1).mono fun e W' ⟨he, bel⟩ => ?_
  subst he
  exact ⟨_, rfl, _, _, _, [], _, [], hW', trodAll_mk1 (shut_bool Tryd.underlying4 _), (trodAll_cons_mk (Below.trod laidOut (by kernel_rfl) (of_decide_eq_true (by kernel_rfl)) k0 bel lt0) (trodAll_cons_mk (Below.trod laidOut (by kernel_rfl) (of_decide_eq_true (by kernel_rfl)) k1 bel lt1) trodAll_mk0)), rfl, bel.frame _, fun h => by cases h⟩

/-- a world for the witness: the settled one, the tables holding what their initialisers lay -/
noncomputable def laidWorld (os : Os) : World :=
  { World.holding Tryd.prog os ⟨#[], #[], []⟩ with heap := ((World.holding Tryd.prog os ⟨#[], #[], []⟩).heap.modify 0 (fun | .cells _ t frozen => .cells #[.int .u32 0, .int .u32 498536548, .int .u32 997073096, .int .u32 651767980, .int .u32 1994146192, .int .u32 1802195444, .int .u32 1303535960, .int .u32 1342533948, .int .u32 3988292384, .int .u32 4027552580, .int .u32 3604390888, .int .u32 3412177804, .int .u32 2607071920, .int .u32 2262029012, .int .u32 2685067896, .int .u32 3183342108] t frozen | o => o)) }
theorem laid_met (os : Os) : laidMet Tryd.prog Rows.crcSplitsUptoRow.laid ((laidWorld os).forCall (fun _ _ => 0) ⟨#[], #[.slice none 0 0, .slice none 0 0], []⟩).memory :=
  laidMet_of_run' 8 (by kernel_rfl) (by kernel_rfl)
theorem reads (os : Os) {H : Type} (enc : TypeId × Value → H) : ∃ places, DataW.whole enc Tryd.prog ((laidWorld os).forCall (fun _ _ => 0) ⟨#[], #[.slice none 0 0, .slice none 0 0], []⟩).memory Tryd.f6.params.toList Rows.crcSplitsSpec.vars false (#[.slice none 0 0, .slice none 0 0] : Array Value).toList 8 = some ([.nil, .nil], [], places) :=
  ⟨[], by kernel_rfl⟩

set_option maxRecDepth 100000 in
theorem lifted (os : Os) (started : os.Started) (H : Type) (enc : TypeId × Value → H) (F : Stop.Interp) :
    ReturnsInHanded {} Tryd.checked os 6 .any ((Rows.OpenSpec.upto Rows.crcSplitsSpec).preRow enc Tryd.prog Tryd.f6 Rows.crcSplitsUptoRow.domain false Rows.crcSplitsUptoRow.laid) (((Rows.OpenSpec.upto Rows.crcSplitsSpec).at F).post enc Tryd.prog Tryd.f6 false true false false) := by
  obtain ⟨places, hx⟩ := reads os enc
  refine returnsInHanded_of_row (C := Tryd.checked) (s := (Rows.OpenSpec.upto Rows.crcSplitsSpec)) own started (by kernel_rfl) Tryd.func6
    (witness_row_at (enc := enc) (C := Tryd.checked) false (laidWorld os) #[.slice none 0 0, .slice none 0 0] rfl (by kernel_rfl) (by kernel_rfl) (by kernel_rfl)
      (OpenSpec.preRow_of_cond 8 hx (by kernel_rfl) (fun k hk => by cases hk; kernel_rfl) (by kernel_rfl) (laid_met os))) ?_
  intro W base args ds gs before hval hW _ hcond hsz hL _ _
  exact contract H enc W base args ds gs before hval hW (hcond _ rfl) hsz hL

theorem said : Rows.CrcSplitsUptoSaid :=
  OpenClaim.holds_of_cond 6 Tryd.f6 rfl rfl rfl rfl rfl rfl rfl ⟨rfl, rfl, rfl, rfl, rfl⟩ rfl rfl rfl rfl rfl (by kernel_rfl) Tryd.func6 (by kernel_rfl)
    (of_decide_eq_true (by kernel_rfl)) (by unfold Func.isWrapper; rw [if_neg (of_decide_eq_false (by kernel_rfl))]; exact ⟨rfl, rfl⟩)
    (fun os started H enc _ F => by rw [OpenClaim.pre_eq_preRow]; exact lifted os started H enc F)

theorem noStandIn : ∀ t ∈ ([22, 22] : List TypeId), Tryd.prog.wantsStandIn t = false := by
  intro t ht
  simp only [List.mem_cons, List.not_mem_nil, or_false] at ht
  rcases ht with rfl | rfl
  · exact (show Tryd.prog.wantsStandIn 22 = false by kernel_rfl)
  · exact (show Tryd.prog.wantsStandIn 22 = false by kernel_rfl)
theorem plain (f : FuncId) (fn : Func) (hf : Tryd.pinned.checked.prog.funcNamed "satchel/satchellaw02.CrcSplits" = some f) (hfn : Tryd.pinned.checked.prog.funcs[f]? = some fn) :
    false = Tryd.pinned.checked.prog.looks [] ∧ ∀ (j : Nat) t, fn.params[j]? = some t → Tryd.pinned.checked.prog.wantsStandIn t = false := by
  obtain rfl : f = 6 := Option.some.inj ((show Tryd.prog.funcNamed "satchel/satchellaw02.CrcSplits" = some 6 by kernel_rfl).symm.trans hf) |>.symm
  obtain rfl : fn = Tryd.f6 := (Option.some.inj (Tryd.func6.symm.trans hfn)).symm
  refine ⟨by kernel_rfl, fun j t ht => ?_⟩
  rw [Tryd.params6] at ht
  exact noStandIn t (by simpa using Array.mem_of_getElem? ht)

/-- THE CARD -/
theorem proved : Rows.CrcSplitsUptoCardSaid :=
  Claim7.holds_tied_plain_at .later [] _ _ _ _ said (fun _ h => by cases h) (by kernel_rfl) (fun _ h => by cases h) crcSplitsUpto_row_tie rfl ⟨rfl, rfl⟩ (by kernel_rfl) rfl plain (by kernel_rfl)
end Go.Proofs.YtgigdflebjnihaaDoor.crcSplits
