/- For every slice of bytes and whatever is turned within four neighbouring bytes: the sum is another one exactly if something was turned. The table of nibbles stands as the program's text lays it (the card ties it). -/
import Derived.Test.YtgigdflebjnihaaDoorCards
import Derived.Test.YtgigdflebjnihaaDoorTie
import Derived.Test.YtgigdflebjnihaaDoorOpen
import Derived.Deep.DeepHandedRow
import Derived.Lib.LaidTab
import Derived.RegionTactic
import Derived.BigRegion
import Derived.Test.YtgigdflebjnihaaDoorCrcTwo
import Derived.Test.YtgigdflebjnihaaDoorBurst
namespace Go.Proofs.YtgigdflebjnihaaDoor.crcBurst
open Go.ChangeShapes Go.WideShapes Go.ChangeAt Go.RowKit
open Go.ChangeMaps (open_string shut_string)
set_option linter.unusedVariables false

theorem xor8 (a b : Nat) (ha : a < 256) (hb : b < 256) : bits .xor .u8 (a : Int) (b : Int) = ((a ^^^ b : Nat) : Int) := u8_xor_nat a b ha hb
theorem xor_lt8 {a b : Nat} (ha : a < 256) (hb : b < 256) : a ^^^ b < 256 := Nat.xor_lt_two_pow (n := 8) ha hb
theorem set_cells8 (bs : List Nat) (k m : Nat) : (cells8 bs).set k (.int .u8 (m : Int)) = cells8 (bs.set k m) := by
  unfold cells8
  rw [List.map_set]
theorem OB.stored {w : World} {base : Nat} {e : TypeId} {g c n : Nat} {bs : List Nat} (h : OB w base e (.slice (some ⟨g, 0, none⟩) n c) bs) (k m : Nat) (hm : m < 256) :
    OB (w.setCell ⟨g, k, none⟩ (.int .u8 (m : Int))) base e (.slice (some ⟨g, 0, none⟩) n c) (bs.set k m) ∧ w.grownBy (w.setCell ⟨g, k, none⟩ (.int .u8 (m : Int))) (some g) := by
  obtain ⟨rfl, -, -, -⟩ := h.reads
  have h1 := h.2.stored k (.int .u8 (m : Int))
  refine ⟨⟨fun x hx => ?_, ?_⟩, h1.2⟩
  · rcases List.mem_or_eq_of_mem_set hx with h2 | h2
    · exact h.1 x h2
    · omega
  · rw [List.length_set, ← set_cells8]
    exact h1.1
/-- was something turned so far -/
def anyTo (t : List Nat) (k : Nat) : Bool := (t.take k).any (· != 0)
theorem anyTo_succ (t : List Nat) (k : Nat) (h : k < t.length) : anyTo t (k + 1) = (anyTo t k || nth t k != 0) := by
  unfold anyTo
  rw [take_succ_nth t k h, List.any_append]; simp

set_option maxRecDepth 100000 in
set_option maxHeartbeats 1000000 in
theorem walk (w : World) (hT : TabW w) {A : Option Addr} {cap : Nat} {xs : List Nat} (r : RB w w.heap.size A xs) (hc : xs.length ≤ cap) (hm : cap ≤ 140737488351232)
    {at_ : Int} (hat : -9223372036854775808 ≤ at_ ∧ at_ ≤ 9223372036854775807)
    {B : Option Addr} {cap2 : Nat} {ts : List Nat} (r2 : RB w w.heap.size B ts) (hc2 : ts.length ≤ cap2) (hm2 : cap2 ≤ 140737488351232) :
    Calls Tryd.prog 8 #[.slice A xs.length cap, .int .i64 at_, .slice B ts.length cap2] w fun e w' => e = .returned (.bool true) ∧ Below w.heap.size w w' := by
  by_cases hneg : at_ < 0
  · go_enter Tryd.func8, Tryd.ntmps8
    go_wp2_with fail
    refine (speaks_any w hT).mono ?_
    rintro e w1 ⟨rfl, hb1⟩
    go_wp2_with fail
    go_ret
    exact ⟨rfl, hb1⟩
  obtain ⟨a, rfl⟩ := Int.eq_ofNat_of_zero_le (by omega : 0 ≤ at_)
  by_cases hge : xs.length ≤ a
  · go_enter Tryd.func8, Tryd.ntmps8
    go_wp2_with fail
    refine (speaks_any w hT).mono ?_
    rintro e w1 ⟨rfl, hb1⟩
    go_wp2_with fail
    go_ret
    exact ⟨rfl, hb1⟩
  have hlt0 : a < xs.length := by omega
  have hlm : Hid (xs.length ≤ maxLen) := Lib.hid (by unfold maxLen; omega)
  have hge2 : ¬ ((xs.length : Int) ≤ (a : Int)) := by omega
  clear hneg hge
  go_enter Tryd.func8, Tryd.ntmps8
  go_wp2_with fail
  refine (speaks_any w hT).mono ?_
  rintro e w1 ⟨rfl, hb1⟩
  have hT1 := hT.below hb1 hT.1
  have hs1 := hb1.size
  go_wp2_with fail
  refine (clone_any A cap w.heap.size xs w1 (r.below hb1) hb1.size (by omega)).mono ?_
  rintro e w2 ⟨v, rfl, hown, hb2⟩
  have hB2 := hb1.trans (hb2.mono hb1.size)
  obtain ⟨A', cap', rfl, hc', hm', hr', -⟩ := hown.form
  go_wp2
  go_loopw [8, 9] (fun u i wr => ∃ k : Nat, k ≤ ts.length ∧ k ≤ 4 ∧ a + k ≤ xs.length ∧ i = .int .i64 k ∧ u = .bool (anyTo ts k) ∧ OB wr w1.heap.size 5 (.slice A' xs.length cap') (bur xs a ts k) ∧ Below w1.heap.size w1 wr) (fun _ i _ => 4 - (intOf i).toNat)
  case atStart => exact ⟨0, Nat.zero_le _, by omega, by omega, rfl, rfl, by rw [bur_zero]; exact hown, hb2⟩
  case round =>
    obtain ⟨k, hk1, hk2, hk3, rfl, rfl, hx, hbw⟩ := hrel
    have hBw := hb1.trans (hbw.mono hb1.size)
    by_cases hgo : k < ts.length ∧ k < 4 ∧ a + k < xs.length
    · obtain ⟨g1, g2, g3⟩ := hgo
      have g4 : (k : Int) < (xs.length : Int) - (a : Int) := by omega
      have n1 := r.1.nth (a + k)
      have n2 := r2.1.nth k
      obtain ⟨g, og, hA, hgl, hcx⟩ := hx.reads.2.1.at_ (k := a + k) (by rw [bur_length]; exact g3)
      rw [bur_nth _ _ _ _ g3] at hcx
      obtain ⟨bt, ot, rfl, htl, hct⟩ := (r2.below hBw).at_ (k := k) g1
      obtain ⟨g', cg, hv, -, -⟩ := hx.2.form (by rw [bur_length]; omega)
      simp only [Value.slice.injEq] at hv
      obtain ⟨hA2, -, -⟩ := hv
      rw [hA2] at hA
      injection hA with hA
      injection hA with hA3 hA4
      subst hA3 hA4
      subst hA2
      rw [Nat.zero_add] at hcx
      have hfz : wr.frozen? ⟨g', a + k, none⟩ = false := by
        have := hx.2
        rw [bur_length] at this
        exact this.frozenAt _
      have e1 := xor8 (nth xs (a + k)) (nth ts k) n1 n2
      have hst := OB.stored hx (a + k) (nth xs (a + k) ^^^ nth ts k) (xor_lt8 n1 n2)
      rw [bur_set _ _ _ _ g3] at hst
      have hany := anyTo_succ ts k g1
      have Hst := Lib.hid hst
      have hgB := (hx.2.lt g' rfl).1
      have hbne : bt ≠ g' := by omega
      clear hst
      generalize nth xs (a + k) ^^^ nth ts k = mm at *
      have hbs : Hid (Below w1.heap.size w1 (wr.setCell ⟨g', a + k, none⟩ (.int .u8 (mm : Int)))) := Lib.hid (hbw.setCell hgB _)
      have hct2 : (wr.setCell ⟨g', a + k, none⟩ (.int .u8 (mm : Int))).cell? ⟨bt, ot + k, none⟩ = some (.int .u8 ((nth ts k : Nat) : Int)) := by
        rw [World.cell?_setCell_other _ _ _ _ (by intro e; injection e with e; omega)]; exact hct
      have hz : ((nth ts k : Int) != 0) = (nth ts k != 0) := by
        rw [Bool.eq_iff_iff, bne_iff_ne, bne_iff_ne]; omega
      generalize anyTo ts k = u at *
      generalize (nth ts k != 0) = z at *
      have Hany := Lib.hid hany
      clear hany
      rcases u with _ | _ <;> rcases z with _ | _
      all_goals
        go_wp2
        go_region
        go_wp2
        go_roundw
        case rel => exact ⟨k + 1, by omega, by omega, by omega, by go_num, by rw [Hany.out]; rfl, Hst.out.1, hbs.out.drew⟩
        case measure => simp [intOf]; omega
    · obtain ⟨w3, rfl⟩ : ∃ w3 : World, w3 = wr := ⟨_, rfl⟩
      have hiff : (crc (bur xs a ts k) = crc xs) ↔ anyTo ts k = false := crc_bur xs a ts k hk1 hk3 hk2 r2.1
      have hT3 := hT1.below hbw hT1.1
      have hfin : ((crc (bur xs a ts k) : Int) != (crc xs : Int)) = anyTo ts k := by
        rcases hany : anyTo ts k with _ | _
        · rw [bne_eq_false_iff_eq, hiff.2 hany]
        · rw [bne_iff_ne]
          intro h
          have : crc (bur xs a ts k) = crc xs := by omega
          rw [hiff.1 this] at hany
          cases hany
      have hbl := bur_length xs a ts k
      have Hs1 := Lib.hid (Sum_any A' cap' _ (bur xs a ts k) w3 hT3 hx.reads.2.1 (by rw [hbl]; exact hlm.out))
      rw [hbl] at Hs1
      generalize crc (bur xs a ts k) = c1 at *
      have huu : (anyTo ts k == anyTo ts k) = true := by simp
      generalize anyTo ts k = u at *
      have hs3 := hBw.size
      have hpos := hT.1
      clear hiff hbl
      have hway : ts.length ≤ k ∨ (k < ts.length ∧ 4 ≤ k) ∨ (k < ts.length ∧ k < 4 ∧ ¬ (k : Int) < (xs.length : Int) - (a : Int)) := by omega
      rcases hway with hw1 | ⟨hw1, hw2⟩ | ⟨hw1, hw2, hw3⟩
      all_goals
        go_wp2_with fail
        refine (Hs1.out).mono ?_
        rintro e w4 ⟨rfl, rfl⟩
        go_wp2_with fail
        refine (clone_any A cap w.heap.size xs w3 (r.below hBw) hs3 (by omega)).mono ?_
        rintro e w5 ⟨v5, rfl, ho5, hb5⟩
        have hB5 := hBw.trans (hb5.mono hBw.size)
        have hT5 := hT3.below hb5 (by omega)
        obtain ⟨A5, c5, rfl, -, -, hr5, -⟩ := ho5.form
        go_wp2_with fail
        refine (Sum_any A5 c5 _ xs w5 hT5 hr5 hlm.out).mono ?_
        rintro e w6 ⟨rfl, rfl⟩
        go_wp2_with fail
        go_ret
        exact ⟨rfl, hB5⟩

/-! ### THE ROW's STEP -/
theorem own : ownKnob Tryd.prog.godebug = none := by kernel_rfl
theorem laidOut : laidOutB Tryd.prog = true := by kernel_rfl
theorem gTab : Tryd.prog.globalNamed "satchel/crc.nibbles" = some 0 := by kernel_rfl
theorem gTabType : (Tryd.prog.globals[0]?).map (·.type) = some 49 := by kernel_rfl
theorem cellsTab : Tryd.prog.cellsOf 49 = 16 := by kernel_rfl
theorem cellsElem : Tryd.prog.cellsOf 24 = 1 := by kernel_rfl
theorem table {W : World} (h : laidMetH Tryd.prog Rows.crcBurstRow.laid W) : Lib.TabIs Tryd.prog W "satchel/crc.nibbles" .u32 [0, 498536548, 997073096, 651767980, 1994146192, 1802195444, 1303535960, 1342533948, 3988292384, 4027552580, 3604390888, 3412177804, 2607071920, 2262029012, 2685067896, 3183342108] :=
  Lib.tabIs_of_head (rest := []) gTab gTabType Tryd.underlying49 Tryd.underlying24 cellsElem cellsTab h

theorem contract (H : Type) (enc : TypeId × Value → H) (W : World) (base : Nat) (args : Array Value) (ds gs : List (DataW H)) (before : List MemPlace)
    (hval0 : ∀ (j : Nat) t v, Tryd.f8.params[j]? = some t → args[j]? = some v → Value.okWide Tryd.prog W .any base t v)
    (hW : DataW.Whole enc Tryd.prog Tryd.f8.params.toList Rows.crcBurstSpec.vars false W args.toList ds gs before)
    (hsz : (DataW.weightsEach Tryd.prog (Tryd.f8.params.toList ++ (OpenSpec.ofChange Rows.crcBurstSpec).bare.plain.varTypes Tryd.prog) (ds ++ gs)).all (· ≤ reachBytes) = true) (hL : laidMetH Tryd.prog Rows.crcBurstRow.laid W) :
    Calls Tryd.prog 8 args W fun e W' => ∃ v, e = .returned v ∧ Rows.crcBurstSpec.post enc Tryd.prog Tryd.f8 false true false false W args v W' := by
  have hval : ∀ (j : Nat) t v, Tryd.f8.params[j]? = some t → args[j]? = some v → Value.okWide Tryd.prog W .any base t v := hval0
  have hW' := hW
  obtain ⟨p, q, hA0, hV, rfl, hfz, hnd⟩ := hW
  have hA : DataW.TrodAll enc Tryd.prog W 0 (fun _ => true) true Tryd.f8.params.toList args.toList ds p := hA0
  rw [Tryd.params8] at hA hval
  obtain ⟨v0, vs0, d0, ds0, p0, q0, hargs, rfl, rfl, h0, r0⟩ := trodAll_cons hA
  obtain ⟨v1, vs1, d1, ds1, p1, q1, rfl, rfl, rfl, h1, r1⟩ := trodAll_cons r0
  obtain ⟨v2, vs2, d2, ds2, p2, q2, rfl, rfl, rfl, h2, r2⟩ := trodAll_cons r1
  obtain ⟨rfl, rfl, rfl⟩ := trodAll_nil r2
  obtain rfl : args = #[v0, v1, v2] := by cases args; simp_all
  obtain ⟨rfl, rfl⟩ := trodVars_none hV
  have k0 := h0
  have lt0 : ∀ x ∈ p0, x.block < W.heap.size := by obtain ⟨m, hm⟩ := k0; exact DataW.trod_lt m _ _ _ hm
  have w0 := reach_at hsz (j := 0) rfl rfl
  have k1 := h1
  have lt1 : ∀ x ∈ p1, x.block < W.heap.size := by obtain ⟨m, hm⟩ := k1; exact DataW.trod_lt m _ _ _ hm
  have w1 := reach_at hsz (j := 1) rfl rfl
  have k2 := h2
  have lt2 : ∀ x ∈ p2, x.block < W.heap.size := by obtain ⟨m, hm⟩ := k2; exact DataW.trod_lt m _ _ _ hm
  have w2 := reach_at hsz (j := 2) rfl rfl
  clear hA0 hval0 hsz
  have hT := tabW_of fun i hi => (table hL).cell gTab i hi
  obtain ⟨A0, n0, c0, rfl⟩ := okWide_slice Tryd.underlying22 (hval 0 22 v0 rfl rfl)
  obtain ⟨b0, rfl, rb0, cb0, mb0⟩ := open_bytes Tryd.underlying22 Tryd.underlying5 (by kernel_rfl) (by kernel_rfl) w0 h0
  obtain ⟨a1, rfl, rfl, rfl, wf1⟩ := open_int Tryd.underlying3 (hval 1 3 v1 rfl rfl) h1
  obtain ⟨A2, n2, c2, rfl⟩ := okWide_slice Tryd.underlying22 (hval 2 22 v2 rfl rfl)
  obtain ⟨b2, rfl, rb2, cb2, mb2⟩ := open_bytes Tryd.underlying22 Tryd.underlying5 (by kernel_rfl) (by kernel_rfl) w2 h2
  refine (walk W hT rb0 cb0 mb0 (bounds_i64 wf1) rb2 cb2 mb2).mono fun e W' ⟨he, bel⟩ => ?_
  subst he
  exact ⟨_, rfl, _, _, _, [], _, [], hW', trodAll_mk1 (shut_bool Tryd.underlying4 _), (trodAll_cons_mk (Below.trod laidOut (by kernel_rfl) (of_decide_eq_true (by kernel_rfl)) k0 bel lt0) (trodAll_cons_mk (Below.trod laidOut (by kernel_rfl) (of_decide_eq_true (by kernel_rfl)) k1 bel lt1) (trodAll_cons_mk (Below.trod laidOut (by kernel_rfl) (of_decide_eq_true (by kernel_rfl)) k2 bel lt2) trodAll_mk0))), rfl, bel.frame _, fun h => by cases h⟩

/-- a world for the witness: the settled one, the table holding what its initialiser lays -/
noncomputable def laidWorld (os : Os) : World :=
  { World.holding Tryd.prog os ⟨#[], #[], []⟩ with heap := (World.holding Tryd.prog os ⟨#[], #[], []⟩).heap.modify 0 fun
      | .cells _ t frozen => .cells #[.int .u32 0, .int .u32 498536548, .int .u32 997073096, .int .u32 651767980, .int .u32 1994146192, .int .u32 1802195444, .int .u32 1303535960, .int .u32 1342533948, .int .u32 3988292384, .int .u32 4027552580, .int .u32 3604390888, .int .u32 3412177804, .int .u32 2607071920, .int .u32 2262029012, .int .u32 2685067896, .int .u32 3183342108] t frozen
      | o => o }
theorem laid_met (os : Os) : laidMet Tryd.prog Rows.crcBurstRow.laid ((laidWorld os).forCall (fun _ _ => 0) ⟨#[], #[.slice none 0 0, .int .i64 0, .slice none 0 0], []⟩).memory :=
  laidMet_of_run' 8 (by kernel_rfl) (by kernel_rfl)
theorem reads (os : Os) {H : Type} (enc : TypeId × Value → H) : ∃ places, DataW.whole enc Tryd.prog ((laidWorld os).forCall (fun _ _ => 0) ⟨#[], #[.slice none 0 0, .int .i64 0, .slice none 0 0], []⟩).memory Tryd.f8.params.toList Rows.crcBurstSpec.vars false #[.slice none 0 0, .int .i64 0, .slice none 0 0].toList 8 = some ([.nil, .lit (.int .i64 0), .nil], [], places) :=
  ⟨[], by kernel_rfl⟩

set_option maxRecDepth 100000 in
theorem lifted (os : Os) (started : os.Started) (H : Type) (enc : TypeId × Value → H) (F : Stop.Interp) :
    ReturnsInHanded {} Tryd.checked os 8 .any ((OpenSpec.ofChange Rows.crcBurstSpec).preRow enc Tryd.prog Tryd.f8 Rows.crcBurstRow.domain false Rows.crcBurstRow.laid) (((OpenSpec.ofChange Rows.crcBurstSpec).at F).post enc Tryd.prog Tryd.f8 false true false false) := by
  obtain ⟨places, hx⟩ := reads os enc
  refine returnsInHanded_of_row (C := Tryd.checked) (s := OpenSpec.ofChange Rows.crcBurstSpec) own started (by kernel_rfl) Tryd.func8
    (witness_row_at (enc := enc) (C := Tryd.checked) false (laidWorld os) #[.slice none 0 0, .int .i64 0, .slice none 0 0] rfl (by kernel_rfl) (by kernel_rfl) (by kernel_rfl)
      (OpenSpec.preRow_of_cond 8 hx (by kernel_rfl) (fun k hk => by cases hk) (by kernel_rfl) (laid_met os))) ?_
  intro W base args ds gs before hval hW _ _ hsz hL _ _
  exact contract H enc W base args ds gs before hval hW hsz hL

theorem said : Rows.CrcBurstSaid :=
  OpenClaim.holds_of_cond 8 Tryd.f8 rfl rfl rfl rfl rfl rfl rfl ⟨rfl, rfl, rfl, rfl, rfl⟩ rfl rfl rfl rfl rfl (by kernel_rfl) Tryd.func8 (by kernel_rfl)
    (of_decide_eq_true (by kernel_rfl)) (by unfold Func.isWrapper; rw [if_neg (of_decide_eq_false (by kernel_rfl))]; exact ⟨rfl, rfl⟩)
    (fun os started H enc _ F => by rw [OpenClaim.pre_eq_preRow]; exact lifted os started H enc F)

theorem noStandIn : ∀ t ∈ [(22 : TypeId), (3 : TypeId), (22 : TypeId)], Tryd.prog.wantsStandIn t = false := by
  intro t ht
  simp only [List.mem_cons, List.not_mem_nil, or_false] at ht
  rcases ht with rfl | rfl | rfl
  · exact (show Tryd.prog.wantsStandIn 22 = false by kernel_rfl)
  · exact (show Tryd.prog.wantsStandIn 3 = false by kernel_rfl)
  · exact (show Tryd.prog.wantsStandIn 22 = false by kernel_rfl)
theorem plain (f : FuncId) (fn : Func) (hf : Tryd.pinned.checked.prog.funcNamed "satchel/satchellaw02.CrcBurst" = some f) (hfn : Tryd.pinned.checked.prog.funcs[f]? = some fn) :
    false = Tryd.pinned.checked.prog.looks [] ∧ ∀ (j : Nat) t, fn.params[j]? = some t → Tryd.pinned.checked.prog.wantsStandIn t = false := by
  obtain rfl : f = 8 := Option.some.inj ((show Tryd.prog.funcNamed "satchel/satchellaw02.CrcBurst" = some 8 by kernel_rfl).symm.trans hf) |>.symm
  obtain rfl : fn = Tryd.f8 := (Option.some.inj (Tryd.func8.symm.trans hfn)).symm
  refine ⟨by kernel_rfl, fun j t ht => ?_⟩
  rw [Tryd.params8] at ht
  exact noStandIn t (by simpa using Array.mem_of_getElem? ht)

/-- THE CARD -/
theorem proved : Rows.CrcBurstCardSaid :=
  Claim7.holds_tied_plain_at .later [] _ _ _ _ said (fun _ h => by cases h) (by kernel_rfl) (fun _ h => by cases h) crcBurst_row_tie rfl ⟨rfl, rfl⟩ (by kernel_rfl) rfl plain (by kernel_rfl)
end Go.Proofs.YtgigdflebjnihaaDoor.crcBurst
