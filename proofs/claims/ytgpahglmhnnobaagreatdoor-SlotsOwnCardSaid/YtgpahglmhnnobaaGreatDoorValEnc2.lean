/- Encode of the program: a value's bytes, or its error. -/
import Derived.Test.YtgpahglmhnnobaaGreatDoorValEnc
import Derived.Test.YtgpahglmhnnobaaGreatDoorValCheckA
import Derived.Deep.Cut
import Derived.Deep.RegionHeld3
import Derived.Deep.RegionLaw
import Derived.BigRegion
import Derived.IntWalk
namespace Go.Proofs.YtgpahglmhnnobaaGreatDoor
open Go.RowKit
set_option linter.unusedVariables false

def EncPost (v : Vv) (w : World) (e : Ending) (w' : World) : Prop := ∃ y, e = .returned (.tuple #[y, .int .i64 (chk v)]) ∧ OB w' w.heap.size 5 y (encV v) ∧ Below w.heap.size w w'

set_option maxRecDepth 100000 in
set_option maxHeartbeats 2000000 in
theorem Encode_any (v : Vv) (x : Value) (B : Nat) (w : World) (h : VR w B v x) (hB : B ≤ w.heap.size) :
    Calls Tryz.prog 38 #[x] w (EncPost v w) := by
  obtain ⟨A, c, A', c', rfl, h1, h2, h3⟩ := h
  have hN := numsOf_ok h3
  have hT := txtsOf_ok h3
  unfold EncPost
  have H0 := Lib.hid (@encV_no v)
  have H1 := Lib.hid (@encV_ok v)
  have HR := Lib.hid (right_iff v).1
  have hEB : encB v = encHead v ++ encNums (elK v.k) (numsOf v) ++ encTxts (txtsOf v) := rfl
  have hEH : encHead v = v.k.toNat :: (if 4 < v.k then [v.ns.length + v.ts.length] else []) := rfl
  obtain ⟨k, n, s, ns, ts⟩ := v
  have hV : VR w B ⟨k, n, s, ns, ts⟩ (.agg #[.int .i64 k, .int .i64 n, .string s, .slice A ns.length c, .slice A' ts.length c']) := ⟨A, c, A', c', rfl, h1, h2, h3⟩
  unfold vagg
  simp only at hEB hEH ⊢
  obtain ⟨wo, hwo⟩ : ∃ x, x = w.alloc (.cells #[.int .i64 k, .int .i64 n, .string s, .slice A ns.length c, .slice A' ts.length c'] 42) := ⟨_, rfl⟩
  have hVo : VR wo B ⟨k, n, s, ns, ts⟩ (.agg #[.int .i64 k, .int .i64 n, .string s, .slice A ns.length c, .slice A' ts.length c']) := by subst hwo; exact hV.alloc hB _
  have hb0 : Below w.heap.size w wo := by subst hwo; exact (Below.refl _ _).alloc (Nat.le_refl _) _
  have Bo : Blk wo w.heap.size 42 #[.int .i64 k, .int .i64 n, .string s, .slice A ns.length c, .slice A' ts.length c'] := by subst hwo; exact Blk.new _ _ _
  have hso := hb0.size
  have HC := Lib.hid (Check_any ⟨k, n, s, ns, ts⟩ _ B wo hVo (by omega))
  obtain ⟨E, hE⟩ : ∃ E, E = chk ⟨k, n, s, ns, ts⟩ := ⟨_, rfl⟩
  rw [← hE] at HC H0 H1 HR ⊢
  have HW := Lib.hid hwo
  clear h1 h2 h3 hwo hE hV
  by_cases h0 : E = 0
  case neg =>
    rw [H0.out h0]
    have hb : (E != 0) = true := by simpa using h0
    clear h0
    go_enter Tryz.func38, Tryz.ntmps38
    go_wp2_with fail
    rw [← HW.out]
    refine (HC.out).mono ?_
    rintro e w1 ⟨rfl, b1⟩
    go_wp2
    go_ret2
    exact ⟨_, rfl, OB.nil _ _ _, hb0.trans (b1.mono hb0.size)⟩
  subst h0
  have hr := HR.out rfl
  rw [H1.out rfl, hEB, hEH]
  have hlens := hr.lens
  have hcnt := hr.cnt
  have htx := hr.txts
  have hk1 := hr.k1
  have hk2 := hr.k2
  simp only at hk1 hk2 hcnt
  obtain ⟨L, hL⟩ : ∃ L, L = numsOf ⟨k, n, s, ns, ts⟩ := ⟨_, rfl⟩
  obtain ⟨M, hM⟩ : ∃ M, M = txtsOf ⟨k, n, s, ns, ts⟩ := ⟨_, rfl⟩
  rw [← hL] at hN hlens ⊢
  rw [← hM] at hT hlens htx ⊢
  obtain ⟨hll, hml⟩ := hlens
  have HL := Lib.hid hL
  have HM := Lib.hid hM
  have HN := Lib.hid hN.1
  have HTX := Lib.hid htx
  clear hN hT hr hL hM htx hEB hEH H0 H1 HR
  obtain ⟨kn, rfl⟩ : ∃ kn : Nat, k = kn := ⟨k.toNat, by omega⟩
  have hwk : IntKind.u64.wrap (kn : Int) = (kn : Int) := wrapU64_in _ (by omega)
  have hwc : IntKind.u64.wrap ((ns.length : Int) + (ts.length : Int)) = ((ns.length + ts.length : Nat) : Int) := by rw [show (ns.length : Int) + (ts.length : Int) = ((ns.length + ts.length : Nat) : Int) by omega]; exact wrapU64_in _ (by omega)
  obtain ⟨T, hT⟩ : ∃ T, T = ((kn : Int).toNat :: (if 4 < (kn : Int) then [ns.length + ts.length] else [])) := ⟨_, rfl⟩
  have hTl : T.length ≤ 2 := by rw [hT]; split <;> simp
  rw [← hT]
  have hT1 : 4 < (kn : Int) → T = [kn] ++ [ns.length + ts.length] := fun h => by rw [hT, if_pos h]; simp
  have hT2 : ¬ 4 < (kn : Int) → T = [kn] := fun h => by rw [hT, if_neg h]; simp
  have HT1 := Lib.hid hT1
  have HT2 := Lib.hid hT2
  have P1 := Lib.hid (put1 (n := kn) (by omega))
  have P2 := Lib.hid (put1 (n := ns.length + ts.length) (by omega))
  clear hT hT1 hT2
  go_enter Tryz.func38, Tryz.ntmps38
  go_wp2_with fail
  rw [← HW.out]
  refine (HC.out).mono ?_
  rintro e w1 ⟨rfl, b1⟩
  have hV1 := hVo.below (b1.mono (show B ≤ wo.heap.size by omega))
  have B1 := Bo.below b1 Bo.lt
  have hb1 := hb0.trans (b1.mono hb0.size)
  have hs1 := hb1.size
  clear hVo Bo b1 hb0 HC HW
  go_wp2_with fail
  refine (NewWriter_any w1).mono ?_
  rintro e w2 ⟨rfl, hw2⟩
  obtain ⟨W2, hb2, hs2, B2, hV2⟩ : Wr w2 w.heap.size w1.heap.size (.slice none 0 0) [] ∧ Below w.heap.size w w2 ∧ w1.heap.size < w2.heap.size ∧ Blk w2 w.heap.size 42 #[.int .i64 (kn : Int), .int .i64 n, .string s, .slice A ns.length c, .slice A' ts.length c'] ∧ VR w2 B ⟨kn, n, s, ns, ts⟩ (.agg #[.int .i64 kn, .int .i64 n, .string s, .slice A ns.length c, .slice A' ts.length c']) := by
    subst hw2
    exact ⟨⟨Blk.new _ _ _, hb1.size, OB.nil _ _ _⟩, hb1.alloc hb1.size _, by simp, B1.alloc _, hV1.alloc (by omega) _⟩
  have hlg := B1.lt
  have hgg : w.heap.size ≠ w1.heap.size := by omega
  clear hw2 hV1 B1 hb1
  obtain ⟨x0, x1, x2, x3, x4⟩ := box_cells B2
  go_wp2_with fail
  refine (WNum_any _ _ _ [] 1 kn w2 W2 (by omega) (by decide)).mono ?_
  rintro e w3 ⟨rfl, v3, W3, ho3, -⟩
  rw [P1.out, List.nil_append] at W3
  have hb3 := ho3.belowTrans hb2 (Nat.le_refl _) fun k _ hk => (W2.lt k hk).1
  have hV3 : VR w3 B ⟨kn, n, s, ns, ts⟩ (.agg #[.int .i64 kn, .int .i64 n, .string s, .slice A ns.length c, .slice A' ts.length c']) := hV2.below (ho3.below (by omega) fun k _ hk => by have := (W2.lt k hk).1; omega)
  have B3 := B2.only ho3 (by rintro (h | h); exact hgg h; cases h)
  clear x0 x1 x2 x3 x4 W2 B2 hV2 ho3 hb2
  obtain ⟨x0, x1, x2, x3, x4⟩ := box_cells B3
  by_cases hk : 4 < (kn : Int)
  case' pos =>
    go_wp2_with (go_at_call 63; refine (isList_yes hk _).mono ?_; rintro e w' ⟨rfl, rfl⟩)
    refine (WNum_any _ _ v3 [kn] 1 (ns.length + ts.length) w3 W3 (by omega) (by simp)).mono ?_
    rintro e w4 ⟨rfl, v4, W4, ho4, -⟩
    rw [P2.out, ← HT1.out hk] at W4
    have hb4 := ho4.belowTrans hb3 (Nat.le_refl _) fun k _ hk => (W3.lt k hk).1
    have hV4 : VR w4 B ⟨kn, n, s, ns, ts⟩ (.agg #[.int .i64 kn, .int .i64 n, .string s, .slice A ns.length c, .slice A' ts.length c']) := hV3.below (ho4.below (by have := hb3.size; omega) fun k _ hk => by have := (W3.lt k hk).1; omega)
    have B4 := B3.only ho4 (by rintro (h | h); exact hgg h; exact own_blk_ne W3.2.2.2 B3 (by decide) h)
    clear x0 x1 x2 x3 x4 W3 B3 hV3 ho4 hb3
    obtain ⟨x0, x1, x2, x3, x4⟩ := box_cells B4
    go_upto_region 8 with fail
  case' neg =>
    rw [← HT2.out (by omega)] at W3
    obtain ⟨w4, rfl⟩ : ∃ x : World, x = w3 := ⟨_, rfl⟩
    obtain ⟨v4, rfl⟩ : ∃ x : Value, x = v3 := ⟨_, rfl⟩
    obtain ⟨W4, hb4, hV4, B4⟩ : _ ∧ _ ∧ _ ∧ _ := ⟨W3, hb3, hV3, B3⟩
    clear W3 hb3 hV3 B3
    have HIL := Lib.hid fun w => isList_no hk w
    clear hk
    go_upto_region 8 with (go_at_call 63; refine (HIL.out _).mono ?_; rintro e w' ⟨rfl, rfl⟩)
  all_goals
    clear HT1 HT2 P1 P2 hwc hwk
    have hs4 := hb4.size
    have hg4 := B4.lt
    go_wp2_with fail
    refine (numbers_any _ _ B w4 hV4 (by omega)).mono ?_
    rintro e w5 ⟨A5, c5, rfl, r5, sp5, b5⟩
    rw [← HL.out] at r5 sp5 ⊢
    have W5 := W4.below b5
    have hb5 := hb4.trans (b5.mono hb4.size)
    have hV5 := hV4.below (b5.mono (show B ≤ w4.heap.size by omega))
    have B5 := B4.below b5 hg4
    have hf5 : ∀ k, wfp w1.heap.size v4 k → (w.heap.size ≤ k ∧ k < w4.heap.size) ∨ w5.heap.size ≤ k := fun k hk => .inl (W4.lt k hk)
    have hs5 := b5.size
    have HQ : Hid (∀ j, j < L.length → ∃ b off, A5 = some ⟨b, off, none⟩ ∧ (b < B ∨ w4.heap.size ≤ b) ∧ b < w5.heap.size ∧ w5.cell? ⟨b, off + j, none⟩ = some (.int .i64 (nthI L j))) := Lib.hid fun j hj => by
      obtain ⟨b, off, e, hb, hc⟩ := r5.allI (by omega)
      obtain ⟨a, e', ha⟩ := sp5 (by omega)
      rw [e] at e'
      injection e' with e'
      subst e'
      exact ⟨b, off, e, ha, hb, hc j hj⟩
    clear x0 x1 x2 x3 x4 W4 hb4 hV4 B4 b5 r5 sp5
    go_wp2_with fail
    go_loopw [37] (fun i wr => ∃ (j : Nat) (v : Value), j ≤ L.length ∧ i = .int .i64 j ∧ Wr wr w.heap.size w1.heap.size v (T ++ encNums (elK kn) (L.take j)) ∧
        Blk wr w.heap.size 42 #[.int .i64 (kn : Int), .int .i64 n, .string s, .slice A ns.length c, .slice A' ts.length c'] ∧
        (∀ k, wfp w1.heap.size v k → (w.heap.size ≤ k ∧ k < w4.heap.size) ∨ w5.heap.size ≤ k) ∧ Only (fun k => w.heap.size ≤ k ∧ k < w4.heap.size) w5 wr) (fun i _ => L.length - (intOf i).toNat)
    case atStart => exact ⟨0, v4, Nat.zero_le _, rfl, by simpa [encNums] using W5, B5, hf5, Only.refl _ _⟩
    case round =>
      clear W5 B5 hf5
      obtain ⟨j, v, hj, rfl, W6, B6, hf6, ho6⟩ := hrel
      obtain ⟨x0, x1, x2, x3, x4⟩ := box_cells B6
      have hs6 := ho6.size
      by_cases hlt : j < L.length
      · obtain ⟨b, off, rfl, hbs, hbl, hc⟩ := HQ.out j hlt
        have q : wr.cell? ⟨b, off + j, none⟩ = some (.int .i64 (nthI L j)) := (World.cell?_of_block (ho6.block b hbl (fun h => by omega))).trans hc
        have hst := encNums_step (e := elK kn) hlt
        have hle := encNums_le (elK kn) (L.take j)
        have hle2 : (L.take j).length ≤ L.length := by rw [List.length_take]; omega
        obtain ⟨y, hy⟩ : ∃ y, y = nthI L j := ⟨_, rfl⟩
        rw [← hy] at q hst
        have hen : encNum (elK kn) y = putNum (nwid (elK kn)) (u64 y) := rfl
        have hwy := u64_wrap y
        have hul := u64_lt y
        obtain ⟨uy, huy⟩ : ∃ u, u = u64 y := ⟨_, rfl⟩
        rw [← huy] at hen hwy hul
        obtain ⟨P, hP⟩ : ∃ P, P = T ++ encNums (elK kn) (L.take j) := ⟨_, rfl⟩
        have hPl : P.length ≤ 400 := by rw [hP, List.length_append]; omega
        have HP : Hid (T ++ encNums (elK kn) (L.take (j + 1)) = P ++ putNum (nwid (elK kn)) uy) := Lib.hid (by rw [hst, hen, ← List.append_assoc, ← hP])
        rw [← hP] at W6
        have HF := Lib.hid hf6
        clear hc hy hen huy hP hst hle hle2 hf6
        go_wp2_with (first | (go_at_call 66; refine (elementKind_any _ _ hk1 hk2).mono ?_; rintro e w' ⟨rfl, rfl⟩) | (go_at_call 65; refine (numberWidth_any _ _).mono ?_; rintro e w' ⟨rfl, rfl⟩))
        refine (WNum_any _ _ v P (nwid (elK kn)) uy wr W6 hul (by omega)).mono ?_
        rintro e w7 ⟨rfl, v7, W7, ho7, hn7⟩
        have B7 := B6.only ho7 (by rintro (h | h); exact hgg h; exact own_blk_ne W6.2.2.2 B6 (by decide) h)
        have ho67 := ho6.trans ho7 (fun i hi h => (HF.out i h).resolve_right (by omega))
        have hf7 : ∀ k, wfp w1.heap.size v7 k → (w.heap.size ≤ k ∧ k < w4.heap.size) ∨ w5.heap.size ≤ k := fun k hk => (hn7 k hk).elim (HF.out k) fun h => .inr (by omega)
        rw [← HP.out] at W7
        clear W6 B6 ho6 ho7 hn7
        go_wp2
        go_roundw
        case rel => exact ⟨j + 1, v7, by omega, by go_num, W7, B7, hf7, ho67⟩
        case measure => simp [intOf]; omega
      · obtain rfl : j = L.length := by omega
        rw [List.take_length] at W6
        have hle := encNums_le (elK kn) L
        obtain ⟨P, hP⟩ : ∃ P, P = T ++ encNums (elK kn) L := ⟨_, rfl⟩
        have hPl : P.length ≤ 400 := by rw [hP, List.length_append]; omega
        rw [← hP] at W6
        have HPf := Lib.hid hP
        have hV6 := hV5.below (ho6.below (show B ≤ w5.heap.size by omega) fun k _ hk => by omega)
        have hb6 := ho6.belowTrans hb5 (Nat.le_refl _) fun k _ hk => hk.1
        have hg6 := B6.lt
        have hlo6 := Lib.hid W6.lt
        clear hle hP hf6 ho6 hV5 hb5 HQ
        obtain ⟨w6, rfl⟩ : ∃ x : World, x = wr := ⟨_, rfl⟩
        go_wp2_with fail
        refine (texts_any _ _ B w6 hV6 (by omega)).mono ?_
        rintro e w7 ⟨A7, c7, rfl, r7, sp7, b7⟩
        rw [← HM.out] at r7 sp7 ⊢
        have W7 := W6.below b7
        have hb7 := hb6.trans (b7.mono hb6.size)
        have B7 := B6.below b7 hg6
        have hf7 : ∀ k, wfp w1.heap.size v k → (w.heap.size ≤ k ∧ k < w6.heap.size) ∨ w7.heap.size ≤ k := fun k hk => .inl (hlo6.out k hk)
        have hs7 := b7.size
        have HQ : Hid (∀ j, j < M.length → ∃ b off, A7 = some ⟨b, off, none⟩ ∧ (b < B ∨ w6.heap.size ≤ b) ∧ b < w7.heap.size ∧ w7.cell? ⟨b, off + j, none⟩ = some (.string (nthS M j))) := Lib.hid fun j hj => by
          obtain ⟨b, off, e, hb, hc⟩ := r7.allS (by omega)
          obtain ⟨a, e', ha⟩ := sp7 (by omega)
          rw [e] at e'
          injection e' with e'
          subst e'
          exact ⟨b, off, e, ha, hb, hc j hj⟩
        clear x0 x1 x2 x3 x4 W6 hb6 hV6 B6 b7 r7 sp7
        go_wp2_with fail
        go_loopw [53] (fun i wr => ∃ (j : Nat) (v : Value), j ≤ M.length ∧ i = .int .i64 j ∧ Wr wr w.heap.size w1.heap.size v (P ++ encTxts (M.take j)) ∧
            (∀ k, wfp w1.heap.size v k → (w.heap.size ≤ k ∧ k < w6.heap.size) ∨ w7.heap.size ≤ k) ∧ Only (fun k => w.heap.size ≤ k ∧ k < w6.heap.size) w7 wr) (fun i _ => M.length - (intOf i).toNat)
        case atStart => exact ⟨0, v, Nat.zero_le _, rfl, by simpa [encTxts] using W7, hf7, Only.refl _ _⟩
        case round =>
          clear W7 hf7
          obtain ⟨j, v, hj, rfl, W8, hf8, ho8⟩ := hrel
          have hs8 := ho8.size
          by_cases hlt : j < M.length
          · obtain ⟨b, off, rfl, hbs, hbl, hc⟩ := HQ.out j hlt
            have q : wr.cell? ⟨b, off + j, none⟩ = some (.string (nthS M j)) := (World.cell?_of_block (ho8.block b hbl (fun h => by omega))).trans hc
            have hst := encTxts_step hlt
            have hle := encTxts_le (M.take j) 1000 (fun s hs => HTX.out s (List.mem_of_mem_take hs))
            have hle2 : (M.take j).length ≤ M.length := by rw [List.length_take]; omega
            have hy1 := HTX.out (nthS M j) (by rw [nthS_lt hlt]; exact List.getElem_mem hlt)
            obtain ⟨y, hy⟩ : ∃ y, y = nthS M j := ⟨_, rfl⟩
            rw [← hy] at q hst hy1
            have hwy : IntKind.u64.wrap (y.size : Int) = (y.size : Int) := wrapU64_in _ (by omega)
            obtain ⟨Q, hQ⟩ : ∃ Q, Q = P ++ encTxts (M.take j) := ⟨_, rfl⟩
            have hQl : Q.length ≤ 50000 := by rw [hQ, List.length_append]; omega
            have HQ2 : Hid (P ++ encTxts (M.take (j + 1)) = Q ++ putNum 2 y.size ++ strBytes y) := Lib.hid (by rw [hst, put2t, hQ]; simp [encTxt, List.append_assoc])
            rw [← hQ] at W8
            have HF := Lib.hid hf8
            clear hc hy hQ hst hle hle2 hf8
            go_wp2_with fail
            refine (WNum_any _ _ v Q 2 y.size wr W8 (by omega) (by omega)).mono ?_
            rintro e w9 ⟨rfl, v9, W9, ho9, hn9⟩
            have ho89 := ho8.trans ho9 (fun i hi h => (HF.out i h).resolve_right (by omega))
            have hf9 : ∀ k, wfp w1.heap.size v9 k → (w.heap.size ≤ k ∧ k < w6.heap.size) ∨ w7.heap.size ≤ k := fun k hk => (hn9 k hk).elim (HF.out k) fun h => .inr (by omega)
            have hs9 := ho9.size
            have hQ2 : (Q ++ putNum 2 y.size).length ≤ 60000 := by rw [List.length_append, put2t, enc_length]; omega
            obtain ⟨Q2, hQ2'⟩ : ∃ Q2, Q2 = Q ++ putNum 2 y.size := ⟨_, rfl⟩
            rw [← hQ2'] at W9 hQ2 HQ2
            have HF9 := Lib.hid hf9
            clear W8 ho8 ho9 hn9 hQ2' hf9
            go_wp2_with fail
            refine (Str_any _ _ v9 Q2 y w9 W9 (by omega)).mono ?_
            rintro e w10 ⟨rfl, v10, W10, ho10, hn10⟩
            have ho810 := ho89.trans ho10 (fun i hi h => (HF9.out i h).resolve_right (by omega))
            have hf10 : ∀ k, wfp w1.heap.size v10 k → (w.heap.size ≤ k ∧ k < w6.heap.size) ∨ w7.heap.size ≤ k := fun k hk => (hn10 k hk).elim (HF9.out k) fun h => .inr (by omega)
            rw [← HQ2.out] at W10
            clear W9 ho89 ho10 hn10
            go_wp2
            go_roundw
            case rel => exact ⟨j + 1, v10, by omega, by go_num, W10, hf10, ho810⟩
            case measure => simp [intOf]; omega
          · obtain rfl : j = M.length := by omega
            rw [List.take_length] at W8
            have hle := encTxts_le M 1000 (fun s hs => HTX.out s hs)
            obtain ⟨Q, hQ⟩ : ∃ Q, Q = P ++ encTxts M := ⟨_, rfl⟩
            have hQl : Q.length ≤ 50000 := by rw [hQ, List.length_append]; omega
            rw [← hQ] at W8
            have HQf := Lib.hid hQ
            have hb8 := ho8.belowTrans hb7 (Nat.le_refl _) fun k _ hk => hk.1
            clear hle hQ hf8 ho8 HQ
            obtain ⟨w8, rfl⟩ : ∃ x : World, x = wr := ⟨_, rfl⟩
            go_wp2_with fail
            refine (Bytes_any _ _ v Q w8 W8 (by omega)).mono ?_
            rintro e w9 ⟨x9, rfl, hx9, b9⟩
            go_wp2
            go_ret2
            rw [HQf.out, HPf.out] at hx9
            exact ⟨x9, rfl, hx9.mono hb8.size, hb8.trans (b9.mono hb8.size)⟩

set_option maxRecDepth 100000 in
set_option maxHeartbeats 1000000 in
theorem Weight_any (v : Vv) (x : Value) (B : Nat) (w : World) (h : VR w B v x) (hB : B ≤ w.heap.size) :
    Calls Tryz.prog 35 #[x] w fun e w' => e = .returned (.int .i64 (encV v).length) ∧ Below w.heap.size w w' := by
  obtain ⟨A, c, A', c', rfl, h1, h2, h3⟩ := h
  obtain ⟨k, n, s, ns, ts⟩ := v
  have hV : VR w B ⟨k, n, s, ns, ts⟩ (.agg #[.int .i64 k, .int .i64 n, .string s, .slice A ns.length c, .slice A' ts.length c']) := ⟨A, c, A', c', rfl, h1, h2, h3⟩
  unfold vagg
  have HE := Lib.hid (Encode_any ⟨k, n, s, ns, ts⟩ _ B (w.alloc (.cells #[.int .i64 k, .int .i64 n, .string s, .slice A ns.length c, .slice A' ts.length c'] 42)) (hV.alloc hB _) (by simp; omega))
  unfold EncPost at HE
  obtain ⟨X, hX⟩ : ∃ X, X = encV ⟨k, n, s, ns, ts⟩ := ⟨_, rfl⟩
  rw [← hX] at HE ⊢
  clear h1 h2 h3 hV hX
  go_enter Tryz.func35, Tryz.ntmps35
  go_wp2_with fail
  refine (HE.out).mono ?_
  rintro e w1 ⟨y, rfl, hy, b1⟩
  obtain ⟨A1, c1, rfl, -, -, -, -⟩ := hy.form
  go_wp2
  go_ret
  exact ⟨rfl, ((Below.refl _ _).alloc (Nat.le_refl _) _).trans (b1.mono (by simp))⟩

end Go.Proofs.YtgpahglmhnnobaaGreatDoor
