/- For every slice of bytes: what a Writer gives out is new memory each time; writing it over and growing it is not seen by the Writer nor by what it gave out before; Set answers new memory and leaves its argument alone. No condition. -/
import Derived.Test.YtgmgdjjfchfleaaRows
import Derived.Test.YtgmgdjjfchfleaaOpen
import Derived.Test.YtgmgdjjfchfleaaSpoil
import Derived.Test.YtgmgdjjfchfleaaWriter
namespace Go.Proofs.Ytgmgdjjfchfleaa.wireOwn
open Go.ChangeShapes Go.WideShapes Go.ChangeAt Go.RowKit
open Go.ChangeMaps (open_string shut_string)
set_option linter.unusedVariables false

theorem set_x (A : Option Addr) (c n B : Nat) (w : World) (h : RB w B A (List.replicate n 161)) (hB : B ≤ w.heap.size) (hn : 1 ≤ n) (hl : n ≤ 140737488355000) (hc : n ≤ c) (hm : c ≤ maxLen) :
    Calls Try.prog 13 #[.slice A n c, .int .i64 0, .int .i64 1, .int .u64 3] w fun e w' => ∃ v L, e = .returned (.tuple #[v, .int .i64 0]) ∧ L.length = n ∧ nth L 0 = 3 ∧ OB w' w.heap.size 5 v L ∧ Below w.heap.size w w' := by
  have hlen : (List.replicate n 161).length = n := List.length_replicate
  have h0 : placeErr (List.replicate n 161).length 0 1 = 0 := placeErr_ok (by simp [isW]) (by rw [hlen]; omega)
  have hs := Set_any A c B (List.replicate n 161) 0 1 3 w h hB (by rw [hlen]; exact hl) (by rw [hlen]; exact hc) hm (by omega) (by omega) (by omega)
  rw [hlen] at hs
  refine hs.mono ?_
  rintro e w' ⟨v, rfl, ho, hb⟩
  rw [h0]
  refine ⟨v, _, rfl, ?_, ?_, ho, hb⟩
  · rw [setVal_ok h0]; simp [enc]; omega
  · rw [setVal_ok h0]; simp [enc, nth]

set_option maxRecDepth 100000 in
set_option maxHeartbeats 1000000 in
theorem walk (w : World) {A : Option Addr} {cap : Nat} {bs : List Nat} (r : RB w w.heap.size A bs) (hc : bs.length ≤ cap) (hm : cap ≤ 140737488351232) :
    Calls Try.prog 8 #[.slice A bs.length cap] w fun e w' => e = .returned (.bool true) ∧ Below w.heap.size w w' := by
  obtain ⟨i0, hi, hz0, hz1, hz2⟩ := info_parts u8_info
  go_enter Try.func8, Try.ntmps8
  go_wp2_with fail
  refine (speaks_any w).mono ?_
  rintro e w1 ⟨rfl, hb1⟩
  go_wp2_with fail
  refine (NewWriter_any w1).mono ?_
  rintro e w2 ⟨rfl, hw2⟩
  have W2 : Wr w2 w.heap.size w1.heap.size (.slice none 0 0) [] := by
    subst hw2
    exact ⟨Blk.new _ _ _, hb1.size, OB.nil _ _ _⟩
  have hb2 : Below w.heap.size w w2 := by subst hw2; exact hb1.alloc hb1.size _
  clear hw2
  go_wp2_with fail
  refine (Copy_any A cap w.heap.size bs w2 (r.below hb2) hb2.size (by omega)).mono ?_
  rintro e w3 ⟨u, rfl, hu, hb3⟩
  obtain ⟨A3, c3, rfl, hc3, hm3, hr3, _⟩ := hu.form
  have W3 := W2.below hb3
  have hB3 := hb2.trans (hb3.mono hb2.size)
  go_wp2_with fail
  refine (Raw_any _ _ _ [] A3 c3 _ bs w3 W3 hr3 (by simp; omega)).mono ?_
  rintro e w4 ⟨rfl, v4, W4, ho4, -⟩
  have hB4 := ho4.belowTrans hB3 (Nat.le_refl _) fun k _ hk => (W3.lt k hk).1
  rw [List.nil_append] at W4
  clear W2 hb2 hu hc3 hm3 hr3 W3 hB3 ho4 hb3
  go_wp2_with fail
  refine (WNum_any _ _ _ bs 1 7 w4 W4 (by omega) (by omega)).mono ?_
  rintro e w5 ⟨rfl, v5, W5, ho5, -⟩
  have hB5 := ho5.belowTrans hB4 (Nat.le_refl _) fun k _ hk => (W4.lt k hk).1
  rw [show putNum 1 7 = [7] from by decide] at W5
  obtain ⟨want, hwant⟩ : ∃ l, l = bs ++ [7] := ⟨_, rfl⟩
  have hwl : want.length ≤ bs.length + 1 := by rw [hwant]; simp
  have hwl1 : 1 ≤ want.length := by rw [hwant]; simp
  have Hwant := Lib.hid hwant
  rw [← hwant] at W5
  clear hwant
  clear W4 hB4 ho5
  -- want
  go_wp2_with fail
  refine (Copy_any A cap w.heap.size bs w5 (r.below hB5) hB5.size (by omega)).mono ?_
  rintro e w6 ⟨u6, rfl, hu6, hb6⟩
  go_wp2_with (at_builtin; refine wpList_append_lit8 _ rfl _ _ 22 rfl w5.heap.size 5 i0 Try.underlying22 hi hz0 hz1 hz2 u6 bs 7 (by rfl) hu6 (by rfl) 7 rfl (by omega) (by omega) hb6.size ?_; intro wv w7 hwv hg7 hat7; rw [← Hwant.out] at hwv)
  have hb7 : Below w5.heap.size w5 w7 := hu6.belowTo hb6 (Nat.le_refl _) hg7 hb6.size
  have hB7 := hB5.trans (hb7.mono hB5.size)
  have W7 := W5.below hb7
  have UW : Hid (∀ k, wfp w1.heap.size v5 k → w.heap.size ≤ k ∧ k < w5.heap.size) := Lib.hid fun k hk => W5.lt k hk
  obtain ⟨Aw, cw, rfl, -, -, -, uw⟩ := hwv.form
  have Uw := Lib.hid uw
  have hs7 := hb7.size
  have hs5 := hB5.size
  clear W5 hB5 hu6 hb6 hg7 hat7 hb7 uw
  -- x
  go_wp2_with fail
  refine (Bytes_any _ _ _ want w7 W7 (by omega)).mono ?_
  rintro e w8 ⟨xv, rfl, hx8, hb8⟩
  obtain ⟨Ax, cx, rfl, hcx, hmx, -, ux⟩ := hx8.form
  have Ux := Lib.hid ux
  have W8 := W7.below hb8
  have hw8 := hwv.below' hb8
  have hB8 := hB7.trans (hb8.mono hB7.size)
  have hs8 := hb8.size
  clear W7 hwv hB7 hb8 ux
  -- y
  go_wp2_with fail
  refine (Bytes_any _ _ _ want w8 W8 (by omega)).mono ?_
  rintro e w9 ⟨yv, rfl, hy9, hb9⟩
  obtain ⟨Ay, cy, rfl, -, -, -, uy⟩ := hy9.form
  have Uy := Lib.hid uy
  have W9 := W8.below hb9
  have hw9 := hw8.below' hb9
  have hx9 := hx8.below' hb9
  have hB9 := hB8.trans (hb9.mono hB8.size)
  have hs9 := hb9.size
  clear W8 hw8 hx8 hB8 hb9 uy
  -- x and y are want
  have hml : want.length ≤ maxLen := by unfold maxLen; omega
  have Hml := Lib.hid hml
  clear hml
  go_wp2_with fail
  refine (same_yes Ax Aw want.length cx cw _ _ want w9 hx9.reads.2.1 hw9.reads.2.1 rfl Hml.out).mono ?_
  rintro e w10 ⟨rfl, n1, rfl⟩
  go_wp2_with fail
  refine (same_yes Ay Aw want.length cy cw _ _ want _ (hy9.drewN n1).reads.2.1 (hw9.drewN n1).reads.2.1 rfl Hml.out).mono ?_
  rintro e w10 ⟨rfl, n2, hw10⟩
  obtain ⟨W10, hw10', hx10, hy10, hB10, hs10⟩ : Wr w10 w.heap.size w1.heap.size v5 want ∧ OB w10 w5.heap.size 5 (.slice Aw want.length cw) want ∧ OB w10 w7.heap.size 5 (.slice Ax want.length cx) want ∧ OB w10 w8.heap.size 5 (.slice Ay want.length cy) want ∧ Below w.heap.size w w10 ∧ w9.heap.size ≤ w10.heap.size := by
    subst hw10
    exact ⟨W9, hw9, hx9, hy9, below_drewN (below_drewN hB9 n1) n2, Nat.le_refl _⟩
  clear hw10 W9 hw9 hx9 hy9 hB9
  -- x is written over
  go_wp2_with fail
  refine (spoil_any w7.heap.size (.slice Ax want.length cx) want 161 w10 hx10 (by omega) (by omega) (by omega)).mono ?_
  rintro e w11 ⟨rfl, hx11, hg11⟩
  have hs11 := hg11.size
  have W11 : Wr w11 w.heap.size w1.heap.size v5 want := W10.only (Only.of_grown hg11) fun k hk e => by have := (UW.out k hk).2; have := (Ux.out k e).1; omega
  have hw11 : OB w11 w5.heap.size 5 (.slice Aw want.length cw) want := hw10'.only (Only.of_grown hg11) fun k hk e => by have := (Uw.out k hk).2; have := (Ux.out k e).1; omega
  have hy11 : OB w11 w8.heap.size 5 (.slice Ay want.length cy) want := hy10.only (Only.of_grown hg11) fun k hk e => by have := (Uy.out k hk).1; have := (Ux.out k e).2; omega
  have hB11 : Below w.heap.size w w11 := Only.belowTrans hB10 (Only.of_grown hg11) (Nat.le_refl _) fun k _ hk => by have := (Ux.out k hk).1; have := hB10.size; omega
  clear W10 hw10' hx10 hy10 hB10 hg11
  -- y stands
  go_wp2_with fail
  refine (same_yes Ay Aw want.length cy cw _ _ want _ hy11.reads.2.1 hw11.reads.2.1 rfl Hml.out).mono ?_
  rintro e w12 ⟨rfl, n3, hw12⟩
  obtain ⟨W12, hw12', hx12, hy12, hB12, hs12⟩ : Wr w12 w.heap.size w1.heap.size v5 want ∧ OB w12 w5.heap.size 5 (.slice Aw want.length cw) want ∧ OB w12 w7.heap.size 5 (.slice Ax want.length cx) (List.replicate want.length 161) ∧ OB w12 w8.heap.size 5 (.slice Ay want.length cy) want ∧ Below w.heap.size w w12 ∧ w11.heap.size ≤ w12.heap.size := by
    subst hw12
    exact ⟨W11, hw11, hx11, hy11, below_drewN hB11 n3, Nat.le_refl _⟩
  clear hw12 W11 hw11 hx11 hy11 hB11
  go_wp2_with fail
  refine (Bytes_any _ _ _ want w12 W12 (by omega)).mono ?_
  rintro e w13 ⟨zv, rfl, hz13, hb13⟩
  obtain ⟨Az, cz, rfl, -, -, -, -⟩ := hz13.form
  have W13 := W12.below hb13
  have hw13 := hw12'.below' hb13
  have hx13 := hx12.below' hb13
  have hy13 := hy12.below' hb13
  have hB13 := hB12.trans (hb13.mono hB12.size)
  have hs13 := hb13.size
  clear W12 hw12' hx12 hy12 hB12 hb13
  go_wp2_with fail
  refine (same_yes Az Aw want.length cz cw _ _ want _ hz13.reads.2.1 hw13.reads.2.1 rfl Hml.out).mono ?_
  rintro e w14 ⟨rfl, n4, hw14⟩
  obtain ⟨W14, hw14', hx14, hy14, hB14, hs14⟩ : Wr w14 w.heap.size w1.heap.size v5 want ∧ OB w14 w5.heap.size 5 (.slice Aw want.length cw) want ∧ OB w14 w7.heap.size 5 (.slice Ax want.length cx) (List.replicate want.length 161) ∧ OB w14 w8.heap.size 5 (.slice Ay want.length cy) want ∧ Below w.heap.size w w14 ∧ w13.heap.size ≤ w14.heap.size := by
    subst hw14
    exact ⟨W13, hw13, hx13, hy13, below_drewN hB13 n4, Nat.le_refl _⟩
  clear hw14 W13 hw13 hx13 hy13 hB13 hz13
  -- y is written over
  go_wp2_with fail
  refine (spoil_any w8.heap.size (.slice Ay want.length cy) want 178 w14 hy14 (by omega) (by omega) (by omega)).mono ?_
  rintro e w15 ⟨rfl, -, hg15⟩
  have hs15 := hg15.size
  have W15 : Wr w15 w.heap.size w1.heap.size v5 want := W14.only (Only.of_grown hg15) fun k hk e => by have := (UW.out k hk).2; have := (Uy.out k e).1; omega
  have hw15 : OB w15 w5.heap.size 5 (.slice Aw want.length cw) want := hw14'.only (Only.of_grown hg15) fun k hk e => by have := (Uw.out k hk).2; have := (Uy.out k e).1; omega
  have hx15 : OB w15 w7.heap.size 5 (.slice Ax want.length cx) (List.replicate want.length 161) := hx14.only (Only.of_grown hg15) fun k hk e => by have := (Ux.out k hk).2; have := (Uy.out k e).1; omega
  have hB15 : Below w.heap.size w w15 := Only.belowTrans hB14 (Only.of_grown hg15) (Nat.le_refl _) fun k _ hk => by have := (Uy.out k hk).1; omega
  clear W14 hw14' hx14 hy14 hB14 hg15
  -- the Writer goes on
  go_wp2_with fail
  refine (WNum_any _ _ _ want 1 8 w15 W15 (by omega) (by omega)).mono ?_
  rintro e w16 ⟨rfl, v16, W16, ho16, hf16⟩
  have hs16 := ho16.size
  rw [show putNum 1 8 = [8] from by decide] at W16
  have hw16 : OB w16 w5.heap.size 5 (.slice Aw want.length cw) want := hw15.only ho16 fun k hk e => by have := (Uw.out k hk).1; have := (UW.out k e).2; omega
  have hx16 : OB w16 w7.heap.size 5 (.slice Ax want.length cx) (List.replicate want.length 161) := hx15.only ho16 fun k hk e => by have := (Ux.out k hk).1; have := (UW.out k e).2; omega
  have hB16 : Below w.heap.size w w16 := ho16.belowTrans hB15 (Nat.le_refl _) fun k _ hk => (UW.out k hk).1
  have UW' : Hid (∀ k, wfp w1.heap.size v16 k → w.heap.size ≤ k ∧ k < w16.heap.size) := Lib.hid fun k hk => W16.lt k hk
  clear W15 hw15 hx15 hB15 ho16 hf16 UW
  -- s, t
  go_wp2_with fail
  refine (set_x Ax cx want.length _ w16 hx16.reads.2.1 (Nat.le_refl _) hwl1 (by omega) hcx hmx).mono ?_
  rintro e w17 ⟨sv, L, rfl, hLl, hL0, hsv, hb17⟩
  have W17 := W16.below hb17
  have hw17 := hw16.below' hb17
  have hx17 := hx16.below' hb17
  have hB17 := hB16.trans (hb17.mono hB16.size)
  have hs17 := hb17.size
  obtain ⟨As, cs, rfl, -, -, -, us⟩ := hsv.form
  have Us := Lib.hid us
  rw [hLl] at Us hsv
  have HLl := Lib.hid hLl
  clear W16 hw16 hx16 hB16 hb17 us hL0
  rw [hLl]
  clear hLl
  go_wp2_with fail
  refine (set_x Ax cx want.length _ w17 hx17.reads.2.1 (Nat.le_refl _) hwl1 (by omega) hcx hmx).mono ?_
  rintro e w18 ⟨tv, M, rfl, hMl, hM0, htv, hb18⟩
  have W18 := W17.below hb18
  have hw18 := hw17.below' hb18
  have hx18 := hx17.below' hb18
  have hsv18 := hsv.below' hb18
  have hB18 := hB17.trans (hb18.mono hB17.size)
  have hs18 := hb18.size
  obtain ⟨At, ct, rfl, -, -, -, ut⟩ := htv.form
  have Ut := Lib.hid ut
  rw [hMl] at Ut htv
  have HMl := Lib.hid hMl
  have HM0 := Lib.hid hM0
  clear W17 hw17 hx17 hB17 hb18 ut hM0 hsv
  rw [hMl]
  clear hMl
  -- s is written over
  go_wp2_with fail
  refine (spoil_any w16.heap.size (.slice As want.length cs) L 195 w18 hsv18 (by omega) (by rw [HLl.out]; omega) (by omega)).mono ?_
  rintro e w19 ⟨rfl, -, hg19⟩
  have hs19 := hg19.size
  have W19 : Wr w19 w.heap.size w1.heap.size v16 (want ++ [8]) := W18.only (Only.of_grown hg19) fun k hk e => by have := (UW'.out k hk).2; have := (Us.out k e).1; omega
  have hw19 : OB w19 w5.heap.size 5 (.slice Aw want.length cw) want := hw18.only (Only.of_grown hg19) fun k hk e => by have := (Uw.out k hk).2; have := (Us.out k e).1; omega
  have hx19 : OB w19 w7.heap.size 5 (.slice Ax want.length cx) (List.replicate want.length 161) := hx18.only (Only.of_grown hg19) fun k hk e => by have := (Ux.out k hk).2; have := (Us.out k e).1; omega
  have ht19 : OB w19 w17.heap.size 5 (.slice At want.length ct) M := htv.only (Only.of_grown hg19) fun k hk e => by have := (Ut.out k hk).1; have := (Us.out k e).2; omega
  have hB19 : Below w.heap.size w w19 := Only.belowTrans hB18 (Only.of_grown hg19) (Nat.le_refl _) fun k _ hk => by have := (Us.out k hk).1; omega
  clear W18 hw18 hx18 htv hsv18 hB18 hg19
  obtain ⟨want2, hwant2⟩ : ∃ l, l = want ++ [8] := ⟨_, rfl⟩
  have hw2l : want2.length ≤ want.length + 1 := by rw [hwant2]; simp
  have hw2m : Hid (want2.length ≤ maxLen) := Lib.hid (by unfold maxLen; omega)
  rw [← hwant2] at W19
  have Hwant2 := Lib.hid hwant2
  clear hwant2
  go_wp2_with fail
  refine (Bytes_any _ _ _ want2 w19 W19 (by omega)).mono ?_
  rintro e w20 ⟨z2, rfl, hz20, hb20⟩
  obtain ⟨Az2, cz2, rfl, -, -, -, uz⟩ := hz20.form
  have Uz := Lib.hid uz
  have hw20 := hw19.below' hb20
  have hx20 := hx19.below' hb20
  have ht20 := ht19.below' hb20
  have hB20 := hB19.trans (hb20.mono hB19.size)
  have hs20 := hb20.size
  clear W19 hw19 hx19 ht19 hB19 hb20 uz
  go_wp2_with (at_builtin; refine wpList_append_lit8 _ rfl (.tmp 71) (.tmp 72) 22 rfl w5.heap.size 5 i0 Try.underlying22 hi hz0 hz1 hz2 (.slice Aw want.length cw) want 8 (by rfl) hw20 (by rfl) 8 rfl (by omega) (by omega) (by omega) ?_; intro wv2 w21 hwv21 hg21 hat21; rw [← Hwant2.out] at hwv21; obtain ⟨Aw2, cw2, rfl, -, -, -, -⟩ := hwv21.form)
  have hz21 : OB w21 w19.heap.size 5 (.slice Az2 want2.length cz2) want2 := hz20.only (Only.of_grown hg21) fun k hk e => by have := (Uz.out k hk).1; have := (Uw.out k e).2; omega
  have hx21 : OB w21 w7.heap.size 5 (.slice Ax want.length cx) (List.replicate want.length 161) := hx20.only (Only.of_grown hg21) fun k hk e => by have := (Ux.out k hk).1; have := (Uw.out k e).2; omega
  have ht21 : OB w21 w17.heap.size 5 (.slice At want.length ct) M := ht20.only (Only.of_grown hg21) fun k hk e => by have := (Ut.out k hk).1; have := (Uw.out k e).2; omega
  have hB21 : Below w.heap.size w w21 := Only.belowTrans hB20 (Only.of_grown hg21) (Nat.le_refl _) fun k _ hk => by have := (Uw.out k hk).1; omega
  clear hw20 hx20 ht20 hz20 hB20 hg21 hat21
  go_wp2_with fail
  refine (same_yes Az2 Aw2 want2.length cz2 cw2 _ _ want2 _ hz21.reads.2.1 hwv21.reads.2.1 rfl hw2m.out).mono ?_
  rintro e w22 ⟨rfl, n5, rfl⟩
  have hxr := hx21.reads.2.1
  have htr := ht21.reads.2.1
  obtain ⟨bx, ox, rfl, -, hcx0⟩ := hxr.at_ (k := 0) (by rw [List.length_replicate]; omega)
  obtain ⟨bt, ot, rfl, -, hct0⟩ := htr.at_ (k := 0) (by rw [HMl.out]; omega)
  have hx161 : nth (List.replicate want.length 161) 0 = 161 := by
    obtain ⟨m, hm⟩ : ∃ m, want.length = m + 1 := ⟨want.length - 1, by omega⟩
    rw [hm]; rfl
  rw [Nat.add_zero, hx161] at hcx0
  rw [Nat.add_zero, HM0.out] at hct0
  have e1 : ((want.length : Int) == (want.length : Int)) = true := by simp
  have hpos : (0 : Int) < (want.length : Int) := by omega
  clear hx161 hxr htr hx21 ht21 hz21 hwv21
  go_wp2_with fail
  go_ret
  exact ⟨rfl, below_drewN hB21 n5⟩

/-! ### THE ROW's STEP -/
theorem own : ownKnob Try.prog.godebug = none := by kernel_rfl
theorem laidOut : laidOutB Try.prog = true := by kernel_rfl
set_option maxRecDepth 100000 in
theorem lifted (os : Os) (started : os.Started) (H : Type) (enc : TypeId × Value → H) :
    ReturnsInHanded {} Try.checked os 8 .any (Rows.wireOwnSpec.pre6 enc Try.prog Try.f8 Rows.wireOwnRow.domain false) (Rows.wireOwnSpec.post enc Try.prog Try.f8 false true false false) := by
  refine returnsInHanded_of_change_sized (C := Try.checked) own started (by kernel_rfl) Try.func8
    (ChangeSpec.witness6 (enc := enc) (C := Try.checked) false ⟨#[], #[.slice none 0 0], []⟩ 8 (by kernel_rfl) (by kernel_rfl) (by kernel_rfl) (by kernel_rfl)) ?_
  intro W base args ds gs before hval0 hW hcnd hsz _
  have hval : ∀ (j : Nat) t v, Try.f8.params[j]? = some t → args[j]? = some v → Value.okWide Try.prog W .any base t v := hval0
  have hW' := hW
  obtain ⟨p, q, hA0, hV, rfl, hfz, hnd⟩ := hW
  have hA : DataW.TrodAll enc Try.prog W 0 (fun _ => true) true Try.f8.params.toList args.toList ds p := hA0
  rw [Try.params8] at hA hval
  obtain ⟨v0, vs0, d0, ds0, p0, q0, hargs, rfl, rfl, h0, r0⟩ := trodAll_cons hA
  obtain ⟨rfl, rfl, rfl⟩ := trodAll_nil r0
  obtain rfl : args = #[v0] := by cases args; simp_all
  obtain ⟨rfl, rfl⟩ := trodVars_none hV
  have k0 := h0
  have lt0 : ∀ x ∈ p0, x.block < W.heap.size := by obtain ⟨m, hm⟩ := k0; exact DataW.trod_lt m _ _ _ hm
  have w0 := reach_at hsz (j := 0) rfl rfl
  clear hA0 hval0 hsz
  obtain ⟨A0, n0, c0, rfl⟩ := okWide_slice Try.underlying22 (hval 0 22 v0 rfl rfl)
  obtain ⟨b0, rfl, rb0, cb0, mb0⟩ := open_bytes Try.underlying22 Try.underlying5 (by kernel_rfl) (by kernel_rfl) w0 h0
  refine (walk W rb0 cb0 mb0).mono fun e W' ⟨he, bel⟩ => ?_
  subst he
  exact ⟨_, rfl, _, _, _, [], _, [], hW', trodAll_mk1 (shut_bool Try.underlying4 _), (trodAll_cons_mk (Below.trod laidOut (by kernel_rfl) (of_decide_eq_true (by kernel_rfl)) k0 bel lt0) trodAll_mk0), rfl, bel.frame _, fun h => by cases h⟩

theorem over : Rows.wireOwnRow.holds Try.pinned (OpenSpec.ofChange Rows.wireOwnSpec) :=
  OpenClaim.holds_of_wide 8 Try.f8 rfl rfl rfl rfl rfl rfl rfl ⟨rfl, rfl, rfl, rfl, rfl⟩ rfl rfl rfl rfl rfl (by kernel_rfl) Try.func8 (by kernel_rfl)
    (of_decide_eq_true (by kernel_rfl)) (by unfold Func.isWrapper; rw [if_neg (of_decide_eq_false (by kernel_rfl))]; exact ⟨rfl, rfl⟩)
    (fun os started H enc _ => lifted os started H enc)

/-- THE STATEMENT -/
theorem proved : Rows.WireOwnSaid := over
end Go.Proofs.Ytgmgdjjfchfleaa.wireOwn
