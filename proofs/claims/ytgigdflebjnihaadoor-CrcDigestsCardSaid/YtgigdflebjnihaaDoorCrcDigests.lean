/- For every list of pieces: a Digest that is given them tells, piece by piece, the sum and the number of all bytes so far, leaves each piece alone and does not keep it; another one beside it does not meet it. The table of nibbles stands as the program's text lays it (the card ties it). -/
import Derived.Test.YtgigdflebjnihaaDoorCards
import Derived.Test.YtgigdflebjnihaaDoorTie
import Derived.Test.YtgigdflebjnihaaDoorOpen
import Derived.Deep.DeepHandedRow
import Derived.Lib.LaidTab
import Derived.RegionTactic
import Derived.BigRegion
import Derived.Deep.QuietTactic
import Derived.BigQuiet
import Derived.Test.YtgigdflebjnihaaDoorDigest
namespace Go.Proofs.YtgigdflebjnihaaDoor.crcDigests
open Go.ChangeShapes Go.WideShapes Go.ChangeAt Go.RowKit
open Go.ChangeMaps (open_string shut_string)
set_option linter.unusedVariables false

theorem set_cells8 (bs : List Nat) (k m : Nat) : (cells8 bs).set k (.int .u8 (m : Int)) = cells8 (bs.set k m) := by
  unfold cells8
  rw [List.map_set]
theorem OB.stored {w : World} {base : Nat} {e : TypeId} {g c n : Nat} {bs : List Nat} (h : OB w base e (.slice (some ⟨g, 0, none⟩) n c) bs) (k m : Nat) (hm : m < 256) :
    OB (w.setCell ⟨g, k, none⟩ (.int .u8 (m : Int))) base e (.slice (some ⟨g, 0, none⟩) n c) (bs.set k m) ∧ w.grownBy (w.setCell ⟨g, k, none⟩ (.int .u8 (m : Int))) (some g) := by
  obtain ⟨rfl, -, -, -⟩ := h.reads
  have h1 := h.2.stored k (.int .u8 (m : Int))
  refine ⟨⟨fun x hx => ?_, ?_⟩, h1.2⟩
  · rcases List.mem_or_eq_of_mem_set hx with h2 | h2
    · exact h.1 x h2
    · omega
  · rw [List.length_set, ← set_cells8]
    exact h1.1
theorem spoil_set (n k m : Nat) (bs : List Nat) (hn : bs.length = n) (hk : k < n) : (List.replicate k m ++ bs.drop k).set k m = List.replicate (k + 1) m ++ bs.drop (k + 1) := by
  rw [List.set_append_right _ _ (by simp), List.length_replicate, Nat.sub_self, drop_nth2 bs k (by omega), List.set_cons_zero, List.replicate_succ', List.append_assoc]
  rfl
theorem half_nth (m k : Nat) (bs : List Nat) (hk : k < bs.length) : nth (List.replicate k m ++ bs.drop k) k = nth bs k := by
  unfold nth
  rw [List.getD_eq_getElem?_getD, List.getElem?_append_right (by simp), List.length_replicate, Nat.sub_self, List.getElem?_drop, List.getD_eq_getElem?_getD]
  rfl

set_option maxRecDepth 100000 in
set_option maxHeartbeats 2000000 in
theorem walk (w : World) (hT : TabW w) {A : Option Addr} {n c : Nat} (hx : Pieces w w.heap.size A n ∧ n ≤ 140737488351232) :
    Calls Tryd.prog 7 #[.slice A n c] w fun e w' => e = .returned (.bool true) ∧ Below w.heap.size w w' := by
  obtain ⟨hp, hn⟩ := hx
  go_enter Tryd.func7, Tryd.ntmps7
  go_wp2_with fail
  refine (speaks_any w hT).mono ?_
  rintro e w1 ⟨rfl, hb1⟩
  have hT1 := hT.below hb1 hT.1
  have hs1 := hb1.size
  have hpos := hT.1
  go_wp2_with fail
  refine (New_any w1).mono ?_
  rintro e w2 ⟨rfl, hw2⟩
  have d2 : Dg w2 w1.heap.size 0 0 := by rw [← hw2]; exact Blk.new _ _ _
  have hs2 : w1.heap.size < w2.heap.size := by rw [← hw2]; simp
  have hB2 : Below w.heap.size w w2 := by rw [← hw2]; exact hb1.alloc hb1.size _
  clear hw2
  go_wp2_with fail
  refine (New_any w2).mono ?_
  rintro e w3 ⟨rfl, hw3⟩
  have o3 : Dg w3 w2.heap.size 0 0 := by rw [← hw3]; exact Blk.new _ _ _
  have d3 : Dg w3 w1.heap.size 0 0 := by rw [← hw3]; exact Blk.alloc d2 _
  have hs3 : w2.heap.size < w3.heap.size := by rw [← hw3]; simp
  have hB3 : Below w.heap.size w w3 := by rw [← hw3]; exact hB2.alloc hB2.size _
  clear hw3 d2 hB2
  go_wp2_with fail
  refine (DSum_any _ _ _ w3 d3).mono ?_
  rintro e w4 ⟨rfl, rfl⟩
  go_wp2_with fail
  refine (DCount_any _ _ _ w3 d3).mono ?_
  rintro e w4 ⟨rfl, rfl⟩
  go_wp2
  go_loopw [5, 6, 33] (fun u v i wr => ∃ k s s2 : Nat, ∃ m : Int, k ≤ n ∧ i = .int .i64 k ∧ s < 4294967296 ∧ s2 < 4294967296 ∧ u = .int .u32 s ∧ v = .int .i64 m ∧ Dg wr w1.heap.size s m ∧ Dg wr w2.heap.size s2 k ∧ Below w.heap.size w wr ∧ w3.heap.size ≤ wr.heap.size) (fun _ _ i _ => n - (intOf i).toNat)
  case atStart => exact ⟨0, 0, 0, 0, Nat.zero_le _, rfl, by omega, by omega, rfl, rfl, d3, o3, hB3, Nat.le_refl _⟩
  case round =>
    obtain ⟨k, s, s2, m, hk, rfl, hsl, hs2l, rfl, rfl, dk, ok, hBk, hsk⟩ := hrel
    clear d3 o3 hB3
    obtain ⟨wo, rfl⟩ : ∃ wo : World, wo = wr := ⟨_, rfl⟩
    have hTk := hT.below hBk hT.1
    by_cases hlt : k < n
    · obtain ⟨b, off, Ap, cp, bs, rfl, hbB, hcell, hrb, hcp, hcpm⟩ := hp.below hBk k hlt
      have hlm : Hid (bs.length ≤ maxLen) := Lib.hid (by unfold maxLen; omega)
      have hlb : bs.length ≤ 140737488351232 := by omega
      go_wp2_with fail
      refine (clone_any Ap cp w.heap.size bs wo hrb hBk.size (by omega)).mono ?_
      rintro e w5 ⟨v5, rfl, hin, hb5⟩
      obtain ⟨Ai, ci, rfl, -, -, -, ui⟩ := hin.form
      have Ui := Lib.hid ui
      have d5 : Dg w5 w1.heap.size s m := Blk.below dk hb5 (by omega)
      have o5 : Dg w5 w2.heap.size s2 k := Blk.below ok hb5 (by omega)
      have hB5 := hBk.trans (hb5.mono hBk.size)
      have hT5 := hT.below hB5 hT.1
      have hs5 := hb5.size
      clear ui dk ok hb5
      go_wp2_with fail
      refine (DWrite_any _ s m Ai ci _ bs w5 d5 hT5 hsl hin.reads.2.1 hlm.out).mono ?_
      rintro e w6 ⟨rfl, d6, ho6⟩
      have hs6 := ho6.size
      have o6 : Dg w6 w2.heap.size s2 k := Blk.only o5 ho6 (by omega)
      have hin6 : OB w6 wo.heap.size 5 (.slice Ai bs.length ci) bs := hin.only ho6 fun g hg e => by have := (Ui.out g hg).1; omega
      have hB6 := ho6.belowTrans hB5 (Nat.le_refl _) fun g _ hg => by omega
      clear d5 o5 hin hB5 hT5 ho6
      obtain ⟨s', hs'⟩ : ∃ s', s' = crcFrom s bs := ⟨_, rfl⟩
      obtain ⟨m', hm'⟩ : ∃ m', m' = IntKind.i64.wrap (m + (bs.length : Int)) := ⟨_, rfl⟩
      have hsl' : s' < 4294967296 := by rw [hs']; exact crcFrom_lt hsl hrb.1
      rw [← hs', ← hm'] at d6
      have Hs' := Lib.hid hs'
      have Hm' := Lib.hid hm'
      have hb6c : Hid (w6.cell? ⟨b, off + k, none⟩ = some (.slice Ap bs.length cp)) := Lib.hid ((hB6.cell (p := ⟨b, off + k, none⟩) hbB).trans ((hBk.cell (p := ⟨b, off + k, none⟩) hbB).symm.trans hcell))
      have hrb6 : RB w6 w.heap.size Ap bs := by
        refine hrb.keep fun p hp => ?_
        rw [hB6.cell hp, hBk.cell hp]
      clear hs' hm' hcell
      go_wp2
      go_loopw [10, 44] (fun _ i wr => ∃ j : Nat, j ≤ bs.length ∧ i = .int .i64 j ∧ OB wr wo.heap.size 5 (.slice Ai bs.length ci) (List.replicate j 238 ++ bs.drop j) ∧ Dg wr w1.heap.size s' m' ∧ Dg wr w2.heap.size s2 k ∧ Below w.heap.size w wr ∧ w6.heap.size ≤ wr.heap.size) (fun _ i _ => bs.length - (intOf i).toNat)
      case atStart => exact ⟨0, Nat.zero_le _, rfl, by simpa using hin6, d6, o6, hB6, Nat.le_refl _⟩
      case round =>
        obtain ⟨j, hj, rfl, hin7, d7, o7, hB7, hs7⟩ := hrel
        have hln : (List.replicate j 238 ++ bs.drop j).length = bs.length := by simp; omega
        by_cases hjl : j < bs.length
        · obtain ⟨g', cg, hv, -, -⟩ := hin7.2.form (by rw [hln]; omega)
          simp only [Value.slice.injEq] at hv
          obtain ⟨rfl, -, -⟩ := hv
          obtain ⟨g2, og, hA, hgl, hcx⟩ := hin7.reads.2.1.at_ (k := j) (by rw [hln]; exact hjl)
          injection hA with hA
          injection hA with hA3 hA4
          subst hA3 hA4
          rw [Nat.zero_add, half_nth _ _ _ hjl] at hcx
          have hfz : wr.frozen? ⟨g', j, none⟩ = false := by
            have := hin7.2
            rw [hln] at this
            exact this.frozenAt _
          have hrb7 : RB wr w.heap.size Ap bs := hrb.keep fun p hp => by rw [hB7.cell hp, hBk.cell hp]
          obtain ⟨bp, op, rfl, hbp, hcp7⟩ := hrb7.at_ (k := j) hjl
          have hst := OB.stored hin7 j 238 (by omega)
          rw [spoil_set bs.length j 238 bs rfl hjl] at hst
          have hgB := (Ui.out g' rfl).1
          have Hst := Lib.hid hst
          have d8 : Hid (Dg (wr.setCell ⟨g', j, none⟩ (.int .u8 238)) w1.heap.size s' m') := Lib.hid (Blk.far d7 (p := ⟨g', j, none⟩) (show w1.heap.size ≠ g' by omega) _)
          have o8 : Hid (Dg (wr.setCell ⟨g', j, none⟩ (.int .u8 238)) w2.heap.size s2 k) := Lib.hid (Blk.far o7 (p := ⟨g', j, none⟩) (show w2.heap.size ≠ g' by omega) _)
          have hB8 : Hid (Below w.heap.size w (wr.setCell ⟨g', j, none⟩ (.int .u8 238))) := Lib.hid (hB7.setCell (show w.heap.size ≤ g' by omega) _)
          have hne : ((nth bs j : Int) != (nth bs j : Int)) = false := by simp
          have hbyte := hrb.1.nth j
          clear hst hln hin7 d7 o7
          have hz8 : Hid (w6.heap.size ≤ (wr.setCell ⟨g', j, none⟩ (.int .u8 238)).heap.size) := Lib.hid (by simpa [World.setCell] using hs7)
          go_wp2
          go_quiet (fail)
          go_wp2
          go_roundw
          case rel => exact ⟨j + 1, by omega, by go_num, Hst.out.1, d8.out, o8.out, below_drewN hB8.out _, hz8.out⟩
          case measure => simp [intOf]; omega
        · obtain ⟨w7, rfl⟩ : ∃ w7 : World, w7 = wr := ⟨_, rfl⟩
          have hT7 := hT.below hB7 hT.1
          have hlit := Blk.new w7 5 #[.int .u8 7]
          have hcc : Hid (w7.cell? ⟨b, off + k, none⟩ = some (.slice Ap bs.length cp)) := Lib.hid (by rw [hB7.cell (p := ⟨b, off + k, none⟩) hbB, ← hB6.cell (p := ⟨b, off + k, none⟩) hbB]; exact hb6c.out)
          have e1 : IntKind.i64.wrap (m + (bs.length : Int)) = m' := Hm'.out.symm
          have hB7a := hB7.alloc hB7.size (.cells #[.int .u8 7] 5)
          have HW := Lib.hid (DWrite_any w2.heap.size s2 k (some ⟨w7.heap.size, 0, none⟩) 1 (w7.heap.size + 1) [7] (w7.alloc (.cells #[.int .u8 7] 5)) (Blk.alloc o7 _) (hT.below hB7a hT.1) hs2l (RB.lit w7 5 (by unfold IsBytes; decide) _ rfl) (by decide))
          have o7c : crcFrom s2 [7] < 4294967296 := crcFrom_lt hs2l (by decide)
          have hkw : IntKind.i64.wrap ((k : Int) + (([7] : List Nat).length : Int)) = ((k + 1 : Nat) : Int) := by
            rw [IntKind.wrap_i64]; simp; omega
          have Hkw := Lib.hid hkw
          have hrb7 : RB w7 w.heap.size Ap bs := hrb.keep fun p hp => by rw [hB7.cell hp, hBk.cell hp]
          clear hlit hln hin7 hkw
          go_wp2_with fail
          refine (HW.out).mono ?_
          rintro e w8 ⟨rfl, o8, hoo⟩
          rw [Hkw.out] at o8
          have d8 : Dg w8 w1.heap.size s' m' := Blk.only (Blk.alloc d7 _) hoo (by omega)
          have hB8 := hoo.belowTrans hB7a (Nat.le_refl _) fun g _ hg => by omega
          have hs8 := hoo.size
          have hrb8 : RB w8 w.heap.size Ap bs := hrb.keep fun p hp => by rw [hB8.cell hp, hBk.cell hp]
          simp only [World.size_alloc] at hs8
          clear HW d7 o7 hB7a hoo
          generalize crcFrom s2 [7] = s3 at *
          have HU := Lib.hid (refUpdate_any s Ap cp w.heap.size bs w8 hsl hrb8 hlm.out)
          rw [← Hs'.out] at HU
          have e2 : ((s' : Int) != (s' : Int)) = false := by simp
          have e3 : (m' != m') = false := by simp
          go_wp2_with fail
          refine (HU.out).mono ?_
          rintro e w9 ⟨rfl, rfl⟩
          go_wp2_with fail
          refine (DSum_any _ _ _ w8 d8).mono ?_
          rintro e w9 ⟨rfl, rfl⟩
          go_wp2_with fail
          refine (DCount_any _ _ _ w8 d8).mono ?_
          rintro e w9 ⟨rfl, rfl⟩
          go_wp2_with fail
          go_roundw
          case rel => exact ⟨k + 1, s', s3, m', by omega, by go_num, hsl', o7c, rfl, rfl, d8, o8, hB8, by omega⟩
          case measure => simp [intOf]; omega
    · obtain rfl : k = n := by omega
      have e1 : ((k : Int) == (k : Int)) = true := by simp
      have e2 : ((s : Int) == (s : Int)) = true := by simp
      go_wp2_with fail
      refine (DCount_any _ _ _ wo ok).mono ?_
      rintro e w9 ⟨rfl, rfl⟩
      go_wp2_with fail
      refine (DSum_any _ _ _ wo dk).mono ?_
      rintro e w9 ⟨rfl, rfl⟩
      go_wp2_with fail
      go_ret
      exact ⟨rfl, hBk⟩

/-! ### THE ROW's STEP -/
theorem own : ownKnob Tryd.prog.godebug = none := by kernel_rfl
theorem laidOut : laidOutB Tryd.prog = true := by kernel_rfl
theorem gTab : Tryd.prog.globalNamed "satchel/crc.nibbles" = some 0 := by kernel_rfl
theorem gTabType : (Tryd.prog.globals[0]?).map (·.type) = some 49 := by kernel_rfl
theorem cellsTab : Tryd.prog.cellsOf 49 = 16 := by kernel_rfl
theorem cellsElem : Tryd.prog.cellsOf 24 = 1 := by kernel_rfl
theorem table {W : World} (h : laidMetH Tryd.prog Rows.crcDigestsRow.laid W) : Lib.TabIs Tryd.prog W "satchel/crc.nibbles" .u32 [0, 498536548, 997073096, 651767980, 1994146192, 1802195444, 1303535960, 1342533948, 3988292384, 4027552580, 3604390888, 3412177804, 2607071920, 2262029012, 2685067896, 3183342108] :=
  Lib.tabIs_of_head (rest := []) gTab gTabType Tryd.underlying49 Tryd.underlying24 cellsElem cellsTab h

theorem contract (H : Type) (enc : TypeId × Value → H) (W : World) (base : Nat) (args : Array Value) (ds gs : List (DataW H)) (before : List MemPlace)
    (hval0 : ∀ (j : Nat) t v, Tryd.f7.params[j]? = some t → args[j]? = some v → Value.okWide Tryd.prog W .any base t v)
    (hW : DataW.Whole enc Tryd.prog Tryd.f7.params.toList Rows.crcDigestsSpec.vars false W args.toList ds gs before)
    (hsz : (DataW.weightsEach Tryd.prog (Tryd.f7.params.toList ++ (OpenSpec.ofChange Rows.crcDigestsSpec).bare.plain.varTypes Tryd.prog) (ds ++ gs)).all (· ≤ reachBytes) = true) (hL : laidMetH Tryd.prog Rows.crcDigestsRow.laid W) :
    Calls Tryd.prog 7 args W fun e W' => ∃ v, e = .returned v ∧ Rows.crcDigestsSpec.post enc Tryd.prog Tryd.f7 false true false false W args v W' := by
  have hval : ∀ (j : Nat) t v, Tryd.f7.params[j]? = some t → args[j]? = some v → Value.okWide Tryd.prog W .any base t v := hval0
  have hW' := hW
  obtain ⟨p, q, hA0, hV, rfl, hfz, hnd⟩ := hW
  have hA : DataW.TrodAll enc Tryd.prog W 0 (fun _ => true) true Tryd.f7.params.toList args.toList ds p := hA0
  rw [Tryd.params7] at hA hval
  obtain ⟨v0, vs0, d0, ds0, p0, q0, hargs, rfl, rfl, h0, r0⟩ := trodAll_cons hA
  obtain ⟨rfl, rfl, rfl⟩ := trodAll_nil r0
  obtain rfl : args = #[v0] := by cases args; simp_all
  obtain ⟨rfl, rfl⟩ := trodVars_none hV
  have k0 := h0
  have lt0 : ∀ x ∈ p0, x.block < W.heap.size := by obtain ⟨m, hm⟩ := k0; exact DataW.trod_lt m _ _ _ hm
  have w0 := reach_at hsz (j := 0) rfl rfl
  clear hA0 hval0 hsz
  have hT := tabW_of fun i hi => (table hL).cell gTab i hi
  obtain ⟨A0, n0, c0, rfl, hx0⟩ := open_pieces (hval 0 _ v0 rfl rfl) w0 h0 lt0
  refine (walk W hT hx0).mono fun e W' ⟨he, bel⟩ => ?_
  subst he
  exact ⟨_, rfl, _, _, _, [], _, [], hW', trodAll_mk1 (shut_bool Tryd.underlying4 _), (trodAll_cons_mk (Below.trod laidOut (by kernel_rfl) (of_decide_eq_true (by kernel_rfl)) k0 bel lt0) trodAll_mk0), rfl, bel.frame _, fun h => by cases h⟩

/-- a world for the witness: the settled one, the table holding what its initialiser lays -/
noncomputable def laidWorld (os : Os) : World :=
  { World.holding Tryd.prog os ⟨#[], #[], []⟩ with heap := (World.holding Tryd.prog os ⟨#[], #[], []⟩).heap.modify 0 fun
      | .cells _ t frozen => .cells #[.int .u32 0, .int .u32 498536548, .int .u32 997073096, .int .u32 651767980, .int .u32 1994146192, .int .u32 1802195444, .int .u32 1303535960, .int .u32 1342533948, .int .u32 3988292384, .int .u32 4027552580, .int .u32 3604390888, .int .u32 3412177804, .int .u32 2607071920, .int .u32 2262029012, .int .u32 2685067896, .int .u32 3183342108] t frozen
      | o => o }
theorem laid_met (os : Os) : laidMet Tryd.prog Rows.crcDigestsRow.laid ((laidWorld os).forCall (fun _ _ => 0) ⟨#[], #[.slice none 0 0], []⟩).memory :=
  laidMet_of_run' 8 (by kernel_rfl) (by kernel_rfl)
theorem reads (os : Os) {H : Type} (enc : TypeId × Value → H) : ∃ places, DataW.whole enc Tryd.prog ((laidWorld os).forCall (fun _ _ => 0) ⟨#[], #[.slice none 0 0], []⟩).memory Tryd.f7.params.toList Rows.crcDigestsSpec.vars false #[.slice none 0 0].toList 8 = some ([.nil], [], places) :=
  ⟨[], by kernel_rfl⟩

set_option maxRecDepth 100000 in
theorem lifted (os : Os) (started : os.Started) (H : Type) (enc : TypeId × Value → H) (F : Stop.Interp) :
    ReturnsInHanded {} Tryd.checked os 7 .any ((OpenSpec.ofChange Rows.crcDigestsSpec).preRow enc Tryd.prog Tryd.f7 Rows.crcDigestsRow.domain false Rows.crcDigestsRow.laid) (((OpenSpec.ofChange Rows.crcDigestsSpec).at F).post enc Tryd.prog Tryd.f7 false true false false) := by
  obtain ⟨places, hx⟩ := reads os enc
  refine returnsInHanded_of_row (C := Tryd.checked) (s := OpenSpec.ofChange Rows.crcDigestsSpec) own started (by kernel_rfl) Tryd.func7
    (witness_row_at (enc := enc) (C := Tryd.checked) false (laidWorld os) #[.slice none 0 0] rfl (by kernel_rfl) (by kernel_rfl) (by kernel_rfl)
      (OpenSpec.preRow_of_cond 8 hx (by kernel_rfl) (fun k hk => by cases hk) (by kernel_rfl) (laid_met os))) ?_
  intro W base args ds gs before hval hW _ _ hsz hL _ _
  exact contract H enc W base args ds gs before hval hW hsz hL

theorem said : Rows.CrcDigestsSaid :=
  OpenClaim.holds_of_cond 7 Tryd.f7 rfl rfl rfl rfl rfl rfl rfl ⟨rfl, rfl, rfl, rfl, rfl⟩ rfl rfl rfl rfl rfl (by kernel_rfl) Tryd.func7 (by kernel_rfl)
    (of_decide_eq_true (by kernel_rfl)) (by unfold Func.isWrapper; rw [if_neg (of_decide_eq_false (by kernel_rfl))]; exact ⟨rfl, rfl⟩)
    (fun os started H enc _ F => by rw [OpenClaim.pre_eq_preRow]; exact lifted os started H enc F)

theorem noStandIn : ∀ t ∈ [(33 : TypeId)], Tryd.prog.wantsStandIn t = false := by
  intro t ht
  simp only [List.mem_cons, List.not_mem_nil, or_false] at ht
  rcases ht with rfl
  · exact (show Tryd.prog.wantsStandIn 33 = false by kernel_rfl)
theorem plain (f : FuncId) (fn : Func) (hf : Tryd.pinned.checked.prog.funcNamed "satchel/satchellaw02.CrcDigests" = some f) (hfn : Tryd.pinned.checked.prog.funcs[f]? = some fn) :
    false = Tryd.pinned.checked.prog.looks [] ∧ ∀ (j : Nat) t, fn.params[j]? = some t → Tryd.pinned.checked.prog.wantsStandIn t = false := by
  obtain rfl : f = 7 := Option.some.inj ((show Tryd.prog.funcNamed "satchel/satchellaw02.CrcDigests" = some 7 by kernel_rfl).symm.trans hf) |>.symm
  obtain rfl : fn = Tryd.f7 := (Option.some.inj (Tryd.func7.symm.trans hfn)).symm
  refine ⟨by kernel_rfl, fun j t ht => ?_⟩
  rw [Tryd.params7] at ht
  exact noStandIn t (by simpa using Array.mem_of_getElem? ht)

/-- THE CARD -/
theorem proved : Rows.CrcDigestsCardSaid :=
  Claim7.holds_tied_plain_at .later [] _ _ _ _ said (fun _ h => by cases h) (by kernel_rfl) (fun _ h => by cases h) crcDigests_row_tie rfl ⟨rfl, rfl⟩ (by kernel_rfl) rfl plain (by kernel_rfl)
end Go.Proofs.YtgigdflebjnihaaDoor.crcDigests
