/- The document's Encode. -/
import Derived.Test.YthnaipgdjbaebaaGreatValEnc3
import Derived.Test.YthnaipgdjbaebaaGreatValRef2
import Derived.Deep.RegionHeld3
import Derived.Deep.Cut
import Derived.Deep.RegionLaw
import Derived.BigRegion
import Derived.IntWalk
namespace Go.Proofs.YthnaipgdjbaebaaGreat
open Go.RowKit
set_option linter.unusedVariables false

set_option maxRecDepth 100000 in
set_option maxHeartbeats 2000000 in
theorem refEncode_any (v : Vv) (x : Value) (B : Nat) (w : World) (h : VR w B v x) (hB : B ≤ w.heap.size) :
    Calls Tryz.prog 84 #[x] w (NewB (encV v) w) := by
  obtain ⟨i0, hi, hz0, hz1, hz2⟩ := info_parts u8_info
  obtain ⟨A, c, A', c', rfl, h1, h2, h3⟩ := h
  have H0 := Lib.hid (@encV_no v)
  have H1 := Lib.hid (@encV_ok v)
  have HR := Lib.hid (right_iff v).1
  have hEB : encB v = v.k.toNat :: (if 4 < v.k then [v.ns.length + v.ts.length] else []) ++ encNums (elK v.k) (numsOf v) ++ encTxts (txtsOf v) := rfl
  have hn1 := numsOf_list (v := v)
  have hn2 := numsOf_text (v := v)
  have hn3 := numsOf_num (v := v)
  have ht1 := txtsOf_list (v := v)
  have ht2 := txtsOf_text (v := v)
  have ht3 := txtsOf_num (v := v)
  obtain ⟨k, n, s, ns, ts⟩ := v
  have hV : VR w B ⟨k, n, s, ns, ts⟩ (.agg #[.int .i64 k, .int .i64 n, .string s, .slice A ns.length c, .slice A' ts.length c']) := ⟨A, c, A', c', rfl, h1, h2, h3⟩
  unfold vagg
  simp only at hEB hn1 hn2 hn3 ht1 ht2 ht3 h1 h2 ⊢
  obtain ⟨wo, hwo⟩ : ∃ x, x = (w.alloc (.cells #[.int .i64 k, .int .i64 n, .string s, .slice A ns.length c, .slice A' ts.length c'] 43)).alloc (.cells #[] 5) := ⟨_, rfl⟩
  have hVo : VR wo B ⟨k, n, s, ns, ts⟩ (.agg #[.int .i64 k, .int .i64 n, .string s, .slice A ns.length c, .slice A' ts.length c']) := by subst hwo; exact (hV.alloc hB _).alloc (by simp; omega) _
  have hb0 : Below w.heap.size w wo := by subst hwo; exact ((Below.refl _ _).alloc (Nat.le_refl _) _).alloc (by simp) _
  have Bo : Blk wo w.heap.size 43 #[.int .i64 k, .int .i64 n, .string s, .slice A ns.length c, .slice A' ts.length c'] := by subst hwo; exact (Blk.new _ _ _).alloc _
  have Oo : OB wo w.heap.size 5 (.slice (some ⟨w.heap.size + 1, 0, none⟩) 0 0) [] := by
    subst hwo
    have := World.ownsRow_lit (base := w.heap.size) (e := 5) (size := 1) (w.alloc (.cells #[.int .i64 k, .int .i64 n, .string s, .slice A ns.length c, .slice A' ts.length c'] 43)) #[] 0 (by simp) (Nat.zero_le _) rfl
    exact ⟨IsBytes.nil, by simpa [cells8] using this⟩
  have hso := hb0.size
  have HC := Lib.hid (refCheck_any ⟨k, n, s, ns, ts⟩ _ B wo hVo (by omega))
  obtain ⟨E, hE⟩ : ∃ E, E = chk ⟨k, n, s, ns, ts⟩ := ⟨_, rfl⟩
  rw [← hE] at HC H0 H1 HR
  have HW := Lib.hid hwo
  have HR1 := Lib.hid h1
  have HR2 := Lib.hid h2
  clear h1 h2 h3 hwo hE hV hVo
  by_cases h0 : E = 0
  case neg =>
    rw [H0.out h0]
    have hb : (E != 0) = true := by simpa using h0
    clear h0 hn1 hn2 hn3 ht1 ht2 ht3 hEB
    go_enter Tryz.func84, Tryz.ntmps84
    go_wp2_with fail
    rw [← HW.out]
    refine (HC.out).mono ?_
    rintro e w1 ⟨rfl, b1⟩
    have Oo1 := Oo.below' b1
    go_wp2
    go_ret
    exact ⟨_, rfl, Oo1, hb0.trans (b1.mono hb0.size)⟩
  subst h0
  have hr := HR.out rfl
  rw [H1.out rfl, hEB]
  have hcnt := hr.cnt
  have htx := hr.txts
  have hk1 := hr.k1
  have hk2 := hr.k2
  simp only at hk1 hk2 hcnt
  obtain ⟨kn, rfl⟩ : ∃ kn : Nat, k = kn := ⟨k.toNat, by omega⟩
  have hwk : IntKind.u8.wrap (kn : Int) = (kn : Int) := wrapU8_in _ (by omega)
  have HTX := Lib.hid htx
  clear hr H0 H1 HR hEB htx
  rw [Int.toNat_natCast]
  rcases (show (kn : Int) < 4 ∨ (kn : Int) = 4 ∨ 4 < (kn : Int) by omega) with hk | hk | hk
  · rw [hn3 hk, ht3 hk, if_neg (by omega), elK_no (by omega)]
    obtain ⟨X, hX⟩ : ∃ X, X = [kn] ++ encNums (kn : Int) [n] ++ encTxts [] := ⟨_, rfl⟩
    have HX : Hid (X = [kn] ++ encNum kn n) := Lib.hid (by rw [hX]; simp [encNums, encTxts])
    rw [← hX]
    clear hn1 hn2 hn3 ht1 ht2 ht3 hX
    go_enter Tryz.func84, Tryz.ntmps84
    go_wp2_with fail
    rw [← HW.out]
    refine (HC.out).mono ?_
    rintro e w1 ⟨rfl, b1⟩
    have Oo1 := Oo.below' b1
    have hb1 := hb0.trans (b1.mono hb0.size)
    have B1 := Bo.below b1 Bo.lt
    clear Oo b1 hb0 Bo
    obtain ⟨x0, x1, x2, x3, x4⟩ := box_cells B1
    have hs1 := hb1.size
    go_wp2_with (at_builtin; refine wpList_append_lit8 _ rfl (.tmp 11) (.tmp 15) 107 rfl w.heap.size 5 i0 Tryz.underlying107 hi hz0 hz1 hz2 _ [] kn (by rfl) Oo1 (by rfl) (kn : Int) rfl (by omega) (by simp) hs1 ?_; intro v2 w2 hown2 hg2 hat2; obtain ⟨x0, x1, x2, x3, x4⟩ := box_cells (B1.grown hg2 (fun e => own_blk_ne Oo1.2 B1 (by decide) e.symm)))
    have hb2 := Oo1.belowTo hb1 (Nat.le_refl _) hg2 hs1
    rw [List.nil_append] at hown2
    refine (laidNum_any w.heap.size v2 [kn] kn n w2 hown2 hb2.size (by simp)).mono ?_
    rintro e w3 ⟨v3, rfl, ho3, hg3⟩
    rw [← HX.out] at ho3
    have hb3 := hown2.belowTo hb2 (Nat.le_refl _) hg3.1 hb2.size
    go_wp2
    go_ret
    exact ⟨v3, rfl, ho3, hb3⟩
  · rw [hn2 hk, ht2 hk, if_neg (by omega), elK_no (by omega)]
    have hst : s.size ≤ 1000 := HTX.out s (by rw [ht2 hk]; simp)
    obtain ⟨X, hX⟩ : ∃ X, X = [kn] ++ encNums (kn : Int) [] ++ encTxts [s] := ⟨_, rfl⟩
    have HX : Hid (X = [kn] ++ encTxt s) := Lib.hid (by rw [hX]; simp [encNums, encTxts])
    rw [← hX]
    have hk4 : ((kn : Int) == 4) = true := by rw [beq_iff_eq]; exact hk
    have hkl : ¬ (kn : Int) < 4 := by omega
    clear hn1 hn2 hn3 ht1 ht2 ht3 hX hk
    go_enter Tryz.func84, Tryz.ntmps84
    go_wp2_with fail
    rw [← HW.out]
    refine (HC.out).mono ?_
    rintro e w1 ⟨rfl, b1⟩
    have Oo1 := Oo.below' b1
    have hb1 := hb0.trans (b1.mono hb0.size)
    have B1 := Bo.below b1 Bo.lt
    clear Oo b1 hb0 Bo
    obtain ⟨x0, x1, x2, x3, x4⟩ := box_cells B1
    have hs1 := hb1.size
    go_wp2_with (at_builtin; refine wpList_append_lit8 _ rfl (.tmp 11) (.tmp 15) 107 rfl w.heap.size 5 i0 Tryz.underlying107 hi hz0 hz1 hz2 _ [] kn (by rfl) Oo1 (by rfl) (kn : Int) rfl (by omega) (by simp) hs1 ?_; intro v2 w2 hown2 hg2 hat2; obtain ⟨x0, x1, x2, x3, x4⟩ := box_cells (B1.grown hg2 (fun e => own_blk_ne Oo1.2 B1 (by decide) e.symm)))
    have hb2 := Oo1.belowTo hb1 (Nat.le_refl _) hg2 hs1
    rw [List.nil_append] at hown2
    refine (laid_any w.heap.size v2 [kn] s w2 hown2 hb2.size (by simp) hst).mono ?_
    rintro e w3 ⟨v3, rfl, ho3, hg3⟩
    rw [← HX.out] at ho3
    have hb3 := hown2.belowTo hb2 (Nat.le_refl _) hg3.1 hb2.size
    go_wp2
    go_ret
    exact ⟨v3, rfl, ho3, hb3⟩
  · rw [hn1 hk, ht1 hk, if_pos hk, elK_yes hk]
    have htx2 : ∀ t ∈ ts, t.size ≤ 1000 := fun t ht => HTX.out t (by rw [ht1 hk]; exact ht)
    have HTX2 := Lib.hid htx2
    obtain ⟨X, hX⟩ : ∃ X, X = [kn] ++ [ns.length + ts.length] ++ encNums ((kn : Int) - 4) ns ++ encTxts ts := ⟨_, rfl⟩
    have HX := Lib.hid hX
    have hXX : kn :: [ns.length + ts.length] ++ encNums ((kn : Int) - 4) ns ++ encTxts ts = X := by rw [hX]; simp
    rw [hXX]
    clear hn1 hn2 hn3 ht1 ht2 ht3 hX hXX htx2
    have hkl : ¬ (kn : Int) < 4 := by omega
    have hk4 : ((kn : Int) == 4) = false := by rw [beq_eq_false_iff_ne]; omega
    have hwc : IntKind.u8.wrap ((ns.length : Int) + (ts.length : Int)) = ((ns.length + ts.length : Nat) : Int) := by rw [show (ns.length : Int) + (ts.length : Int) = ((ns.length + ts.length : Nat) : Int) by omega]; exact wrapU8_in _ (by omega)
    have hw4 : IntKind.i64.wrap ((kn : Int) - 4) = (kn : Int) - 4 := IntWalk.i64_in _ (by omega)
    go_enter Tryz.func84, Tryz.ntmps84
    go_wp2_with fail
    rw [← HW.out]
    refine (HC.out).mono ?_
    rintro e w1 ⟨rfl, b1⟩
    have Oo1 := Oo.below' b1
    have hb1 := hb0.trans (b1.mono hb0.size)
    have B1 := Bo.below b1 Bo.lt
    clear Oo b1 hb0 Bo
    obtain ⟨x0, x1, x2, x3, x4⟩ := box_cells B1
    have hs1 := hb1.size
    have HB1 := Lib.hid B1
    go_upto_region 7 with (at_builtin; refine wpList_append_lit8 _ rfl (.tmp 11) (.tmp 15) 107 rfl w.heap.size 5 i0 Tryz.underlying107 hi hz0 hz1 hz2 _ [] kn (by rfl) Oo1 (by rfl) (kn : Int) rfl (by omega) (by simp) hs1 ?_; intro v2 w2 hown2 hg2 hat2; obtain ⟨x0, x1, x2, x3, x4⟩ := box_cells (HB1.out.grown hg2 (fun e => own_blk_ne Oo1.2 HB1.out (by decide) e.symm)))
    have hb2 := Oo1.belowTo hb1 (Nat.le_refl _) hg2 hs1
    have B2 := HB1.out.grown hg2 (fun e => own_blk_ne Oo1.2 HB1.out (by decide) e.symm)
    rw [List.nil_append] at hown2
    have hs2 := hb2.size
    have HB2 := Lib.hid B2
    clear B1 HB1 hb1 B2 Oo1 hg2 hat2
    go_wp2_with (at_builtin; refine wpList_append_lit8 _ rfl (.tmp 33) (.tmp 42) 107 rfl w.heap.size 5 i0 Tryz.underlying107 hi hz0 hz1 hz2 _ [kn] (ns.length + ts.length) (by rfl) hown2 (by rfl) _ rfl (by omega) (by simp) hs2 ?_; intro v3 w3 hown3 hg3 hat3)
    have hb3 := hown2.belowTo hb2 (Nat.le_refl _) hg3 hs2
    have B3 := HB2.out.grown hg3 (fun e => own_blk_ne hown2.2 HB2.out (by decide) e.symm)
    obtain ⟨T, hT⟩ : ∃ T, T = [kn] ++ [ns.length + ts.length] := ⟨_, rfl⟩
    have hTl : T.length = 2 := by rw [hT]; rfl
    rw [← hT] at hown3
    have HX2 : Hid (X = T ++ encNums ((kn : Int) - 4) ns ++ encTxts ts) := Lib.hid (by rw [HX.out, hT])
    clear hT HB2 hb2 hown2 hg3 hat3 x0 x1 x2 x3 x4
    obtain ⟨x0, x1, x2, x3, x4⟩ := box_cells B3
    go_loopw [3, 4] (fun bv i wr => ∃ (j : Nat), j ≤ ns.length ∧ i = .int .i64 j ∧ OB wr w.heap.size 5 bv (T ++ encNums ((kn : Int) - 4) (ns.take j)) ∧
        Blk wr w.heap.size 43 #[.int .i64 (kn : Int), .int .i64 n, .string s, .slice A ns.length c, .slice A' ts.length c'] ∧ Below w.heap.size w wr) (fun _ i _ => ns.length - (intOf i).toNat)
    case atStart => exact ⟨0, Nat.zero_le _, rfl, by simpa [encNums] using hown3, B3, hb3⟩
    case round =>
      clear hown3 B3 hb3 x0 x1 x2 x3 x4
      obtain ⟨j, hj, rfl, ho, B4, hb4⟩ := hrel
      obtain ⟨x0, x1, x2, x3, x4⟩ := box_cells B4
      have hs4 := hb4.size
      have hl4 := B4.lt
      have hle := encNums_le ((kn : Int) - 4) (ns.take j)
      have hle2 : (ns.take j).length ≤ ns.length := by rw [List.length_take]; omega
      by_cases hlt : j < ns.length
      · obtain ⟨b, off, rfl, hbB, hc⟩ := (HR1.out.below (hb4.mono hB)).allI (by omega)
        have q := hc j hlt
        have hst := encNums_step (e := (kn : Int) - 4) hlt
        obtain ⟨y, hy⟩ : ∃ y, y = nthI ns j := ⟨_, rfl⟩
        rw [← hy] at q hst
        obtain ⟨P, hP⟩ : ∃ P, P = T ++ encNums ((kn : Int) - 4) (ns.take j) := ⟨_, rfl⟩
        have hPl : P.length ≤ 400 := by rw [hP, List.length_append]; omega
        have HP : Hid (T ++ encNums ((kn : Int) - 4) (ns.take (j + 1)) = P ++ encNum ((kn : Int) - 4) y) := Lib.hid (by rw [hst, ← List.append_assoc, ← hP])
        rw [← hP] at ho
        have hi0 : (0 : Int) ≤ (j : Int) := by omega
        have hi1 : (j : Int) < (ns.length : Int) := by omega
        have HB4 := Lib.hid B4
        have HO := Lib.hid ho
        have hb4' := Lib.hid hb4
        have HL := Lib.hid (laidNum_any w.heap.size u3 P ((kn : Int) - 4) y (wr.drewN 1) (ho.drewN 1) hs4 (by omega))
        clear hc hy hP hst hle hle2 B4 x1 x2 x4 hb4
        go_wp2_with fail
        go_region_held3 (fun w' => w'.cell? ⟨w.heap.size, 0, none⟩ = some (.int .i64 (kn : Int)) ∧ w'.cell? ⟨w.heap.size, 3, none⟩ = some (.slice (some ⟨b, off, none⟩) ns.length c) ∧ w'.cell? ⟨b, off + j, none⟩ = some (.int .i64 y)) (go_keep)
          ((go_at_call 113; refine (HL.out).mono ?_; rintro e w' ⟨v', rfl, ho', hg'⟩; have B5 := Blk.grown (HB4.out.drewN 1) hg'.1 (fun e => own_blk_ne HO.out.2 HB4.out (by decide) e.symm); have y0 : w'.cell? ⟨w.heap.size, 0, none⟩ = some (.int .i64 (kn : Int)) := (by rw [B5.cell 0]; rfl); have y3 : w'.cell? ⟨w.heap.size, 3, none⟩ = some (.slice (some ⟨b, off, none⟩) ns.length c) := (by rw [B5.cell 3]; rfl); have ye : w'.cell? ⟨b, off + j, none⟩ = some (.int .i64 y) := (World.cell?_of_block (hg'.1.block b (show b < wr.heap.size by omega) (fun e => by have := (HO.out.2.lt b e.symm).1; omega))).trans q))
        have hb5 : Below w.heap.size w w' := (HO.out.drewN 1).belowTo (below_drewN hb4'.out 1) (Nat.le_refl _) hg'.1 (by exact hs4)
        rw [← HP.out] at ho'
        go_wp2
        go_roundw
        case rel => exact ⟨j + 1, by omega, by go_num, ho', B5, hb5⟩
        case measure => simp [intOf]; omega
      · obtain rfl : j = ns.length := by omega
        rw [List.take_length] at ho hle
        obtain ⟨P, hP⟩ : ∃ P, P = T ++ encNums ((kn : Int) - 4) ns := ⟨_, rfl⟩
        have hPl : P.length ≤ 400 := by rw [hP, List.length_append]; omega
        have HX3 : Hid (X = P ++ encTxts ts) := Lib.hid (by rw [HX2.out, hP])
        rw [← hP] at ho
        obtain ⟨w6, rfl⟩ : ∃ x : World, x = wr := ⟨_, rfl⟩
        clear hP hle hle2
        go_wp2_with fail
        go_loopw [3, 5] (fun bv i wr => ∃ (j : Nat), j ≤ ts.length ∧ i = .int .i64 j ∧ OB wr w.heap.size 5 bv (P ++ encTxts (ts.take j)) ∧
            Blk wr w.heap.size 43 #[.int .i64 (kn : Int), .int .i64 n, .string s, .slice A ns.length c, .slice A' ts.length c'] ∧ Below w.heap.size w wr) (fun _ i _ => ts.length - (intOf i).toNat)
        case atStart => exact ⟨0, Nat.zero_le _, rfl, by simpa [encTxts] using ho, B4, hb4⟩
        case round =>
          clear ho B4 hb4 x0 x1 x2 x3 x4
          obtain ⟨j, hj, rfl, ho, B4, hb4⟩ := hrel
          obtain ⟨x0, x1, x2, x3, x4⟩ := box_cells B4
          have hs4 := hb4.size
          have hl4 := B4.lt
          have hle := encTxts_le (ts.take j) 1000 (fun t ht => HTX2.out t (List.mem_of_mem_take ht))
          have hle2 : (ts.take j).length ≤ ts.length := by rw [List.length_take]; omega
          by_cases hlt : j < ts.length
          · obtain ⟨b, off, rfl, hbB, hc⟩ := (HR2.out.below (hb4.mono hB)).allS (by omega)
            have q := hc j hlt
            have hst := encTxts_step hlt
            have hy1 := HTX2.out (nthS ts j) (by rw [nthS_lt hlt]; exact List.getElem_mem hlt)
            obtain ⟨y, hy⟩ : ∃ y, y = nthS ts j := ⟨_, rfl⟩
            rw [← hy] at q hst hy1
            obtain ⟨Q, hQ⟩ : ∃ Q, Q = P ++ encTxts (ts.take j) := ⟨_, rfl⟩
            have hQl : Q.length ≤ 50000 := by rw [hQ, List.length_append]; omega
            have HQ : Hid (P ++ encTxts (ts.take (j + 1)) = Q ++ encTxt y) := Lib.hid (by rw [hst, ← List.append_assoc, ← hQ])
            rw [← hQ] at ho
            clear hc hy hQ hst hle hle2
            go_wp2_with fail
            refine (laid_any w.heap.size _ Q y wr ho hs4 (by omega) hy1).mono ?_
            rintro e w7 ⟨v7, rfl, ho7, hg7⟩
            have B7 := B4.grown hg7.1 (fun e => own_blk_ne ho.2 B4 (by decide) e.symm)
            have hb7 := ho.belowTo hb4 (Nat.le_refl _) hg7.1 hs4
            rw [← HQ.out] at ho7
            go_wp2
            go_roundw
            case rel => exact ⟨j + 1, by omega, by go_num, ho7, B7, hb7⟩
            case measure => simp [intOf]; omega
          · obtain rfl : j = ts.length := by omega
            rw [List.take_length] at ho
            go_wp2
            go_ret
            exact ⟨_, rfl, by rw [HX3.out]; exact ho, hb4⟩

end Go.Proofs.YthnaipgdjbaebaaGreat
