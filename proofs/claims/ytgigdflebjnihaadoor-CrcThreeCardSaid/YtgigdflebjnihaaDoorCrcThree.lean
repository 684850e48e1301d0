/- For all three slices of bytes of one length the xor of the three has the xor of their sums. The table of nibbles stands as the program's text lays it (the card ties it). -/
import Derived.Test.YtgigdflebjnihaaDoorCards
import Derived.Test.YtgigdflebjnihaaDoorTie
import Derived.Test.YtgigdflebjnihaaDoorOpen
import Derived.Deep.DeepHandedRow
import Derived.Lib.LaidTab
import Derived.RegionTactic
import Derived.BigRegion
import Derived.Test.YtgigdflebjnihaaDoorCrcTwo
namespace Go.Proofs.YtgigdflebjnihaaDoor.crcThree
open Go.ChangeShapes Go.WideShapes Go.ChangeAt Go.RowKit
open Go.ChangeMaps (open_string shut_string)
set_option linter.unusedVariables false

theorem xor8 (a b : Nat) (ha : a < 256) (hb : b < 256) : bits .xor .u8 (a : Int) (b : Int) = ((a ^^^ b : Nat) : Int) := u8_xor_nat a b ha hb
theorem xor_lt8 {a b : Nat} (ha : a < 256) (hb : b < 256) : a ^^^ b < 256 := Nat.xor_lt_two_pow (n := 8) ha hb
theorem set_cells8 (bs : List Nat) (k m : Nat) : (cells8 bs).set k (.int .u8 (m : Int)) = cells8 (bs.set k m) := by
  unfold cells8
  rw [List.map_set]
theorem OB.stored {w : World} {base : Nat} {e : TypeId} {g c n : Nat} {bs : List Nat} (h : OB w base e (.slice (some ⟨g, 0, none⟩) n c) bs) (k m : Nat) (hm : m < 256) :
    OB (w.setCell ⟨g, k, none⟩ (.int .u8 (m : Int))) base e (.slice (some ⟨g, 0, none⟩) n c) (bs.set k m) ∧ w.grownBy (w.setCell ⟨g, k, none⟩ (.int .u8 (m : Int))) (some g) := by
  obtain ⟨rfl, -, -, -⟩ := h.reads
  have h1 := h.2.stored k (.int .u8 (m : Int))
  refine ⟨⟨fun x hx => ?_, ?_⟩, h1.2⟩
  · rcases List.mem_or_eq_of_mem_set hx with h2 | h2
    · exact h.1 x h2
    · omega
  · rw [List.length_set, ← set_cells8]
    exact h1.1
/-- the first k places turned -/
def mix (xs ys : List Nat) (k : Nat) : List Nat := (xors xs ys).take k ++ xs.drop k
theorem mix_length (xs ys : List Nat) (k : Nat) (h : xs.length = ys.length) (hk : k ≤ xs.length) : (mix xs ys k).length = xs.length := by
  simp [mix, xors, h]; omega
theorem xors_nth (xs ys : List Nat) (k : Nat) (h : xs.length = ys.length) (hk : k < xs.length) : nth (xors xs ys) k = nth xs k ^^^ nth ys k := by
  rw [nth_lt (by rw [xors_length _ _ h]; exact hk), nth_lt hk, nth_lt (by omega)]
  simp [xors]
theorem mix_nth (xs ys : List Nat) (k : Nat) (h : xs.length = ys.length) (hk : k < xs.length) : nth (mix xs ys k) k = nth xs k := by
  have hl : ((xors xs ys).take k).length = k := by simp [xors]; omega
  unfold mix nth
  rw [List.getD_eq_getElem?_getD, List.getElem?_append_right (by omega), hl, Nat.sub_self, List.getElem?_drop, List.getD_eq_getElem?_getD]
  rfl
theorem mix_set (xs ys : List Nat) (k : Nat) (h : xs.length = ys.length) (hk : k < xs.length) : (mix xs ys k).set k (nth xs k ^^^ nth ys k) = mix xs ys (k + 1) := by
  have hl : ((xors xs ys).take k).length = k := by simp [xors]; omega
  unfold mix
  rw [List.set_append_right _ _ (by omega), hl, Nat.sub_self, drop_nth2 xs k hk, List.set_cons_zero, take_succ_nth _ _ (by rw [xors_length _ _ h]; exact hk), xors_nth xs ys k h hk, List.append_assoc]
  rfl

set_option maxRecDepth 100000 in
set_option maxHeartbeats 1000000 in
theorem walk (w : World) (hT : TabW w) {A : Option Addr} {cap : Nat} {xs : List Nat} (r : RB w w.heap.size A xs) (hc : xs.length ≤ cap) (hm : cap ≤ 140737488351232)
    {B : Option Addr} {cap2 : Nat} {ys : List Nat} (r2 : RB w w.heap.size B ys) (hc2 : ys.length ≤ cap2) (hm2 : cap2 ≤ 140737488351232)
    {C : Option Addr} {cap3 : Nat} {zs : List Nat} (r3 : RB w w.heap.size C zs) (hc3 : zs.length ≤ cap3) (hm3 : cap3 ≤ 140737488351232) :
    Calls Tryd.prog 9 #[.slice A xs.length cap, .slice B ys.length cap2, .slice C zs.length cap3] w fun e w' => e = .returned (.bool true) ∧ Below w.heap.size w w' := by
  by_cases hne : xs.length = ys.length ∧ xs.length = zs.length
  · obtain ⟨h12, h13⟩ := hne
    have b1 : ((xs.length : Int) != (ys.length : Int)) = false := by simp [h12]
    have b2 : ((xs.length : Int) != (zs.length : Int)) = false := by simp [h13]
    have hlm : Hid (xs.length ≤ maxLen) := Lib.hid (by unfold maxLen; omega)
    have hlm2 : Hid (ys.length ≤ maxLen) := Lib.hid (by unfold maxLen; omega)
    have hlm3 : Hid (zs.length ≤ maxLen) := Lib.hid (by unfold maxLen; omega)
    have H12 := Lib.hid h12
    have H13 := Lib.hid h13
    have i12 : xs.length ≤ ys.length := by omega
    have i13 : xs.length ≤ zs.length := by omega
    have hq : (xors ys zs).length = ys.length := xors_length _ _ (by omega)
    obtain ⟨q, hqd⟩ : ∃ q, q = xors ys zs := ⟨_, rfl⟩
    have Hq := Lib.hid hqd
    have hxq : xs.length = q.length := by rw [hqd, hq, h12]
    have Hxq := Lib.hid hxq
    clear h12 h13 hq hqd hxq
    go_enter Tryd.func9, Tryd.ntmps9
    go_wp2_with fail
    refine (speaks_any w hT).mono ?_
    rintro e w1 ⟨rfl, hb1⟩
    have hT1 := hT.below hb1 hT.1
    go_wp2_with fail
    refine (clone_any A cap w.heap.size xs w1 (r.below hb1) hb1.size (by omega)).mono ?_
    rintro e w2 ⟨v, rfl, hown, hb2⟩
    have hT2 := hT1.below hb2 hT1.1
    have hB2 := hb1.trans (hb2.mono hb1.size)
    obtain ⟨A', cap', rfl, hc', hm', hr', -⟩ := hown.form
    have hs1 := hb1.size
    go_wp2
    go_loopw [27] (fun i wr => ∃ k : Nat, k ≤ xs.length ∧ i = .int .i64 k ∧ OB wr w1.heap.size 5 (.slice A' xs.length cap') (mix xs q k) ∧ Below w1.heap.size w1 wr) (fun i _ => xs.length - (intOf i).toNat)
    case atStart => exact ⟨0, Nat.zero_le _, rfl, by simpa [mix] using hown, hb2⟩
    case round =>
      obtain ⟨k, hk, rfl, hx, hbw⟩ := hrel
      by_cases hlt : k < xs.length
      · have hBw := hb1.trans (hbw.mono hb1.size)
        have hmx := hx.1.nth k
        have n1 := r.1.nth k
        have n2 := r2.1.nth k
        have n3 := r3.1.nth k
        obtain ⟨g, og, hA, hgl, hcx⟩ := hx.reads.2.1.at_ (k := k) (by rw [mix_length _ _ _ Hxq.out (by omega)]; exact hlt)
        rw [mix_nth _ _ _ Hxq.out hlt] at hcx
        obtain ⟨by_, oy, rfl, hyl, hcy⟩ := (r2.below hBw).at_ (k := k) (by omega)
        obtain ⟨bz, oz, rfl, hzl, hcz⟩ := (r3.below hBw).at_ (k := k) (by omega)
        obtain ⟨g', cg, hv, -, -⟩ := hx.2.form (by rw [mix_length _ _ _ Hxq.out (by omega)]; omega)
        simp only [Value.slice.injEq] at hv
        obtain ⟨hA2, -, -⟩ := hv
        rw [hA2] at hA
        injection hA with hA
        injection hA with hA3 hA4
        subst hA3 hA4
        subst hA2
        rw [Nat.zero_add] at hcx
        have hfz : wr.frozen? ⟨g', k, none⟩ = false := by
          have := hx.2
          rw [mix_length _ _ _ Hxq.out (by omega)] at this
          exact this.frozenAt k
        have e1 := xor8 (nth ys k) (nth zs k) n2 n3
        have e2 := xor8 (nth xs k) (nth ys k ^^^ nth zs k) n1 (xor_lt8 n2 n3)
        have hst := OB.stored hx k (nth xs k ^^^ (nth ys k ^^^ nth zs k)) (xor_lt8 n1 (xor_lt8 n2 n3))
        rw [show nth ys k ^^^ nth zs k = nth q k from by rw [Hq.out, xors_nth _ _ _ (by rw [← H12.out, H13.out]) (by omega)]] at hst e1 e2
        rw [mix_set _ _ _ Hxq.out hlt] at hst
        have Hst := Lib.hid hst
        clear hst
        generalize nth xs k ^^^ nth q k = mm at *
        have hbs : Hid (Below w1.heap.size w1 (wr.setCell ⟨g', k, none⟩ (.int .u8 (mm : Int)))) := Lib.hid (hbw.setCell (hx.2.lt g' rfl).1 _)
        go_wp2
        go_region
        go_wp2
        go_roundw
        case rel => exact ⟨k + 1, by omega, by go_num, Hst.out.1, hbs.out.drew⟩
        case measure => simp [intOf]; omega
      · obtain rfl : k = xs.length := by omega
        obtain ⟨w3, rfl⟩ : ∃ w3 : World, w3 = wr := ⟨_, rfl⟩
        have hfull : mix xs q xs.length = xors xs q := by
          have := xors_length xs q Hxq.out
          unfold mix
          rw [List.take_of_length_le (by omega), List.drop_length, List.append_nil]
        have hlen : (xors xs q).length = xs.length := xors_length xs q Hxq.out
        have hcrc : crc (xors xs q) = crc xs ^^^ crc ys ^^^ crc zs := by rw [Hq.out, crc_three _ _ _ H12.out H13.out]
        rw [hfull] at hx
        have l1 := crc_lt r.1
        have l2 := crc_lt r2.1
        have l3 := crc_lt r3.1
        have e1 := xor32 (crc xs) (crc ys) l1 l2
        have e2 := xor32 (crc xs ^^^ crc ys) (crc zs) (xor_lt l1 l2) l3
        rw [← hcrc] at e2
        have e3 : ((crc (xors xs q) : Int) == (crc (xors xs q) : Int)) = true := by simp
        have hBw := hb1.trans (hbw.mono hb1.size)
        have hT3 := hT1.below hbw hT1.1
        have hs3 := hBw.size
        have hpos := hT.1
        have Hsum := Lib.hid (Sum_any A' cap' _ (xors xs q) w3 hT3 hx.reads.2.1 (by rw [hlen]; exact hlm.out))
        rw [hlen] at Hsum
        clear hfull hcrc hlen
        go_wp2_with fail
        refine (Hsum.out).mono ?_
        rintro e w4 ⟨rfl, rfl⟩
        go_wp2_with fail
        refine (clone_any A cap w.heap.size xs w3 (r.below hBw) hs3 (by omega)).mono ?_
        rintro e w5 ⟨v5, rfl, ho5, hb5⟩
        have hB5 := hBw.trans (hb5.mono hBw.size)
        have hT5 := hT3.below hb5 (by omega)
        obtain ⟨A5, c5, rfl, -, -, hr5, -⟩ := ho5.form
        go_wp2_with fail
        refine (Sum_any A5 c5 _ xs w5 hT5 hr5 hlm.out).mono ?_
        rintro e w6 ⟨rfl, rfl⟩
        have hs5 := hB5.size
        go_wp2_with fail
        refine (clone_any B cap2 w.heap.size ys w5 (r2.below hB5) hs5 (by omega)).mono ?_
        rintro e w7 ⟨v7, rfl, ho7, hb7⟩
        have hB7 := hB5.trans (hb7.mono hB5.size)
        have hT7 := hT5.below hb7 (by omega)
        obtain ⟨A7, c7, rfl, -, -, hr7, -⟩ := ho7.form
        go_wp2_with fail
        refine (Sum_any A7 c7 _ ys w7 hT7 hr7 hlm2.out).mono ?_
        rintro e w8 ⟨rfl, rfl⟩
        have hs7 := hB7.size
        go_wp2_with fail
        refine (clone_any C cap3 w.heap.size zs w7 (r3.below hB7) hs7 (by omega)).mono ?_
        rintro e w9 ⟨v9, rfl, ho9, hb9⟩
        have hB9 := hB7.trans (hb9.mono hB7.size)
        have hT9 := hT7.below hb9 (by omega)
        obtain ⟨A9, c9, rfl, -, -, hr9, -⟩ := ho9.form
        go_wp2_with fail
        refine (Sum_any A9 c9 _ zs w9 hT9 hr9 hlm3.out).mono ?_
        rintro e w10 ⟨rfl, rfl⟩
        go_wp2_with fail
        go_ret
        exact ⟨rfl, hB9⟩
  · by_cases h12 : xs.length = ys.length
    · have h13 : xs.length ≠ zs.length := fun h => hne ⟨h12, h⟩
      have b1 : ((xs.length : Int) != (ys.length : Int)) = false := by simp [h12]
      have b2 : ((xs.length : Int) != (zs.length : Int)) = true := by rw [bne_iff_ne]; omega
      clear h12 h13 hne
      go_enter Tryd.func9, Tryd.ntmps9
      go_wp2_with fail
      refine (speaks_any w hT).mono ?_
      rintro e w1 ⟨rfl, hb1⟩
      go_wp2_with fail
      go_ret
      exact ⟨rfl, hb1⟩
    · have b1 : ((xs.length : Int) != (ys.length : Int)) = true := by rw [bne_iff_ne]; omega
      clear h12 hne
      go_enter Tryd.func9, Tryd.ntmps9
      go_wp2_with fail
      refine (speaks_any w hT).mono ?_
      rintro e w1 ⟨rfl, hb1⟩
      go_wp2_with fail
      go_ret
      exact ⟨rfl, hb1⟩

/-! ### THE ROW's STEP -/
theorem own : ownKnob Tryd.prog.godebug = none := by kernel_rfl
theorem laidOut : laidOutB Tryd.prog = true := by kernel_rfl
theorem gTab : Tryd.prog.globalNamed "satchel/crc.nibbles" = some 0 := by kernel_rfl
theorem gTabType : (Tryd.prog.globals[0]?).map (·.type) = some 49 := by kernel_rfl
theorem cellsTab : Tryd.prog.cellsOf 49 = 16 := by kernel_rfl
theorem cellsElem : Tryd.prog.cellsOf 24 = 1 := by kernel_rfl
theorem table {W : World} (h : laidMetH Tryd.prog Rows.crcThreeRow.laid W) : Lib.TabIs Tryd.prog W "satchel/crc.nibbles" .u32 [0, 498536548, 997073096, 651767980, 1994146192, 1802195444, 1303535960, 1342533948, 3988292384, 4027552580, 3604390888, 3412177804, 2607071920, 2262029012, 2685067896, 3183342108] :=
  Lib.tabIs_of_head (rest := []) gTab gTabType Tryd.underlying49 Tryd.underlying24 cellsElem cellsTab h

theorem contract (H : Type) (enc : TypeId × Value → H) (W : World) (base : Nat) (args : Array Value) (ds gs : List (DataW H)) (before : List MemPlace)
    (hval0 : ∀ (j : Nat) t v, Tryd.f9.params[j]? = some t → args[j]? = some v → Value.okWide Tryd.prog W .any base t v)
    (hW : DataW.Whole enc Tryd.prog Tryd.f9.params.toList Rows.crcThreeSpec.vars false W args.toList ds gs before)
    (hsz : (DataW.weightsEach Tryd.prog (Tryd.f9.params.toList ++ (OpenSpec.ofChange Rows.crcThreeSpec).bare.plain.varTypes Tryd.prog) (ds ++ gs)).all (· ≤ reachBytes) = true) (hL : laidMetH Tryd.prog Rows.crcThreeRow.laid W) :
    Calls Tryd.prog 9 args W fun e W' => ∃ v, e = .returned v ∧ Rows.crcThreeSpec.post enc Tryd.prog Tryd.f9 false true false false W args v W' := by
  have hval : ∀ (j : Nat) t v, Tryd.f9.params[j]? = some t → args[j]? = some v → Value.okWide Tryd.prog W .any base t v := hval0
  have hW' := hW
  obtain ⟨p, q, hA0, hV, rfl, hfz, hnd⟩ := hW
  have hA : DataW.TrodAll enc Tryd.prog W 0 (fun _ => true) true Tryd.f9.params.toList args.toList ds p := hA0
  rw [Tryd.params9] at hA hval
  obtain ⟨v0, vs0, d0, ds0, p0, q0, hargs, rfl, rfl, h0, r0⟩ := trodAll_cons hA
  obtain ⟨v1, vs1, d1, ds1, p1, q1, rfl, rfl, rfl, h1, r1⟩ := trodAll_cons r0
  obtain ⟨v2, vs2, d2, ds2, p2, q2, rfl, rfl, rfl, h2, r2⟩ := trodAll_cons r1
  obtain ⟨rfl, rfl, rfl⟩ := trodAll_nil r2
  obtain rfl : args = #[v0, v1, v2] := by cases args; simp_all
  obtain ⟨rfl, rfl⟩ := trodVars_none hV
  have k0 := h0
  have lt0 : ∀ x ∈ p0, x.block < W.heap.size := by obtain ⟨m, hm⟩ := k0; exact DataW.trod_lt m _ _ _ hm
  have w0 := reach_at hsz (j := 0) rfl rfl
  have k1 := h1
  have lt1 : ∀ x ∈ p1, x.block < W.heap.size := by obtain ⟨m, hm⟩ := k1; exact DataW.trod_lt m _ _ _ hm
  have w1 := reach_at hsz (j := 1) rfl rfl
  have k2 := h2
  have lt2 : ∀ x ∈ p2, x.block < W.heap.size := by obtain ⟨m, hm⟩ := k2; exact DataW.trod_lt m _ _ _ hm
  have w2 := reach_at hsz (j := 2) rfl rfl
  clear hA0 hval0 hsz
  have hT := tabW_of fun i hi => (table hL).cell gTab i hi
  obtain ⟨A0, n0, c0, rfl⟩ := okWide_slice Tryd.underlying22 (hval 0 22 v0 rfl rfl)
  obtain ⟨b0, rfl, rb0, cb0, mb0⟩ := open_bytes Tryd.underlying22 Tryd.underlying5 (by kernel_rfl) (by kernel_rfl) w0 h0
  obtain ⟨A1, n1, c1, rfl⟩ := okWide_slice Tryd.underlying22 (hval 1 22 v1 rfl rfl)
  obtain ⟨b1, rfl, rb1, cb1, mb1⟩ := open_bytes Tryd.underlying22 Tryd.underlying5 (by kernel_rfl) (by kernel_rfl) w1 h1
  obtain ⟨A2, n2, c2, rfl⟩ := okWide_slice Tryd.underlying22 (hval 2 22 v2 rfl rfl)
  obtain ⟨b2, rfl, rb2, cb2, mb2⟩ := open_bytes Tryd.underlying22 Tryd.underlying5 (by kernel_rfl) (by kernel_rfl) w2 h2
  refine (walk W hT rb0 cb0 mb0 rb1 cb1 mb1 rb2 cb2 mb2).mono fun e W' ⟨he, bel⟩ => ?_
  subst he
  exact ⟨_, rfl, _, _, _, [], _, [], hW', trodAll_mk1 (shut_bool Tryd.underlying4 _), (trodAll_cons_mk (Below.trod laidOut (by kernel_rfl) (of_decide_eq_true (by kernel_rfl)) k0 bel lt0) (trodAll_cons_mk (Below.trod laidOut (by kernel_rfl) (of_decide_eq_true (by kernel_rfl)) k1 bel lt1) (trodAll_cons_mk (Below.trod laidOut (by kernel_rfl) (of_decide_eq_true (by kernel_rfl)) k2 bel lt2) trodAll_mk0))), rfl, bel.frame _, fun h => by cases h⟩

/-- a world for the witness: the settled one, the table holding what its initialiser lays -/
noncomputable def laidWorld (os : Os) : World :=
  { World.holding Tryd.prog os ⟨#[], #[], []⟩ with heap := (World.holding Tryd.prog os ⟨#[], #[], []⟩).heap.modify 0 fun
      | .cells _ t frozen => .cells #[.int .u32 0, .int .u32 498536548, .int .u32 997073096, .int .u32 651767980, .int .u32 1994146192, .int .u32 1802195444, .int .u32 1303535960, .int .u32 1342533948, .int .u32 3988292384, .int .u32 4027552580, .int .u32 3604390888, .int .u32 3412177804, .int .u32 2607071920, .int .u32 2262029012, .int .u32 2685067896, .int .u32 3183342108] t frozen
      | o => o }
theorem laid_met (os : Os) : laidMet Tryd.prog Rows.crcThreeRow.laid ((laidWorld os).forCall (fun _ _ => 0) ⟨#[], #[.slice none 0 0, .slice none 0 0, .slice none 0 0], []⟩).memory :=
  laidMet_of_run' 8 (by kernel_rfl) (by kernel_rfl)
theorem reads (os : Os) {H : Type} (enc : TypeId × Value → H) : ∃ places, DataW.whole enc Tryd.prog ((laidWorld os).forCall (fun _ _ => 0) ⟨#[], #[.slice none 0 0, .slice none 0 0, .slice none 0 0], []⟩).memory Tryd.f9.params.toList Rows.crcThreeSpec.vars false #[.slice none 0 0, .slice none 0 0, .slice none 0 0].toList 8 = some ([.nil, .nil, .nil], [], places) :=
  ⟨[], by kernel_rfl⟩

set_option maxRecDepth 100000 in
theorem lifted (os : Os) (started : os.Started) (H : Type) (enc : TypeId × Value → H) (F : Stop.Interp) :
    ReturnsInHanded {} Tryd.checked os 9 .any ((OpenSpec.ofChange Rows.crcThreeSpec).preRow enc Tryd.prog Tryd.f9 Rows.crcThreeRow.domain false Rows.crcThreeRow.laid) (((OpenSpec.ofChange Rows.crcThreeSpec).at F).post enc Tryd.prog Tryd.f9 false true false false) := by
  obtain ⟨places, hx⟩ := reads os enc
  refine returnsInHanded_of_row (C := Tryd.checked) (s := OpenSpec.ofChange Rows.crcThreeSpec) own started (by kernel_rfl) Tryd.func9
    (witness_row_at (enc := enc) (C := Tryd.checked) false (laidWorld os) #[.slice none 0 0, .slice none 0 0, .slice none 0 0] rfl (by kernel_rfl) (by kernel_rfl) (by kernel_rfl)
      (OpenSpec.preRow_of_cond 8 hx (by kernel_rfl) (fun k hk => by cases hk) (by kernel_rfl) (laid_met os))) ?_
  intro W base args ds gs before hval hW _ _ hsz hL _ _
  exact contract H enc W base args ds gs before hval hW hsz hL

theorem said : Rows.CrcThreeSaid :=
  OpenClaim.holds_of_cond 9 Tryd.f9 rfl rfl rfl rfl rfl rfl rfl ⟨rfl, rfl, rfl, rfl, rfl⟩ rfl rfl rfl rfl rfl (by kernel_rfl) Tryd.func9 (by kernel_rfl)
    (of_decide_eq_true (by kernel_rfl)) (by unfold Func.isWrapper; rw [if_neg (of_decide_eq_false (by kernel_rfl))]; exact ⟨rfl, rfl⟩)
    (fun os started H enc _ F => by rw [OpenClaim.pre_eq_preRow]; exact lifted os started H enc F)

theorem noStandIn : ∀ t ∈ [(22 : TypeId), (22 : TypeId), (22 : TypeId)], Tryd.prog.wantsStandIn t = false := by
  intro t ht
  simp only [List.mem_cons, List.not_mem_nil, or_false] at ht
  rcases ht with rfl | rfl | rfl
  · exact (show Tryd.prog.wantsStandIn 22 = false by kernel_rfl)
  · exact (show Tryd.prog.wantsStandIn 22 = false by kernel_rfl)
  · exact (show Tryd.prog.wantsStandIn 22 = false by kernel_rfl)
theorem plain (f : FuncId) (fn : Func) (hf : Tryd.pinned.checked.prog.funcNamed "satchel/satchellaw02.CrcThree" = some f) (hfn : Tryd.pinned.checked.prog.funcs[f]? = some fn) :
    false = Tryd.pinned.checked.prog.looks [] ∧ ∀ (j : Nat) t, fn.params[j]? = some t → Tryd.pinned.checked.prog.wantsStandIn t = false := by
  obtain rfl : f = 9 := Option.some.inj ((show Tryd.prog.funcNamed "satchel/satchellaw02.CrcThree" = some 9 by kernel_rfl).symm.trans hf) |>.symm
  obtain rfl : fn = Tryd.f9 := (Option.some.inj (Tryd.func9.symm.trans hfn)).symm
  refine ⟨by kernel_rfl, fun j t ht => ?_⟩
  rw [Tryd.params9] at ht
  exact noStandIn t (by simpa using Array.mem_of_getElem? ht)

/-- THE CARD -/
theorem proved : Rows.CrcThreeCardSaid :=
  Claim7.holds_tied_plain_at .later [] _ _ _ _ said (fun _ h => by cases h) (by kernel_rfl) (fun _ h => by cases h) crcThree_row_tie rfl ⟨rfl, rfl⟩ (by kernel_rfl) rfl plain (by kernel_rfl)
end Go.Proofs.YtgigdflebjnihaaDoor.crcThree
