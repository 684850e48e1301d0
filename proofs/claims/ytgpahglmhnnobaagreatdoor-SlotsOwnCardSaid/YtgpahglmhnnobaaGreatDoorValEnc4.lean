/- The document's bytes of a value. -/
import Derived.Test.YtgpahglmhnnobaaGreatDoorValEnc
import Derived.IntWalk
import Derived.Deep.Cut
import Derived.Deep.RegionHeld3
import Derived.Deep.RegionLaw
import Derived.BigRegion
import Derived.Test.YtgpahglmhnnobaaGreatDoorValRefA
namespace Go.Proofs.YtgpahglmhnnobaaGreatDoor
open Go.RowKit
set_option linter.unusedVariables false

/-- a row that grows out of v, away from the blocks between -/
theorem grew_far {w w' : World} {v v' : Value} {lo hi : Nat} (hG : Grew w w' v v') (hlo : ∀ g, v.ownBlock = some g → g < lo) (hhi : hi ≤ w.heap.size) :
    ∀ k, k < w.heap.size → lo ≤ k → w'.heap[k]? = w.heap[k]? := fun k hk hl => hG.1.block k hk fun e => by
      have := hlo k e.symm; omega

set_option maxRecDepth 100000 in
set_option maxHeartbeats 1000000 in
theorem laidNum_any (base : Nat) (v : Value) (bs : List Nat) (k n : Int) (w : World) (h : OB w base 5 v bs) (hB : base ≤ w.heap.size) (hl : bs.length + 8 ≤ 140737488355328) :
    Calls Tryz.prog 45 #[v, .int .i64 k, .int .i64 n] w (Apps base v (bs ++ encNum k n) w) := by
  obtain ⟨i0, hi, hz0, hz1, hz2⟩ := info_parts u8_info
  have hwy := u64_wrap n
  have hul := u64_lt n
  rw [encNum_eq]
  obtain ⟨u, hu⟩ : ∃ u, u = u64 n := ⟨_, rfl⟩
  rw [← hu] at hwy hul ⊢
  have hlo := fun g hg => (h.2.lt g hg).2
  have HLo := Lib.hid hlo
  clear hu hlo
  go_enter Tryz.func45, Tryz.ntmps45
  go_wp2_with fail
  refine (refNum_any 8 u w hul).mono ?_
  rintro e w1 ⟨x1, rfl, hx1, b1⟩
  have hx1 : OB w1 w.heap.size 5 x1 (enc 8 u) := hx1
  obtain ⟨A1, c1, rfl, hcc, -, hr1, hgl⟩ := hx1.form
  rw [enc_length] at hcc ⊢
  have h8 : (enc 8 u).length = 8 := enc_length 8 u
  obtain ⟨b, off, rfl, hb1, hc1⟩ := hr1.all (by omega)
  have hbw : w.heap.size ≤ b := by
    rcases hx1.2.2 with ⟨h0, _⟩ | ⟨g, cap, cur, hv, hbg, _⟩
    · cases h0
    · injection hv with hv; injection hv with hv; injection hv with hv; omega
  have hown := h.below' b1
  have hG : Grew w w1 v v := ⟨⟨b1.os, b1.tape, b1.output, b1.size, fun k hk _ => b1.block k hk⟩, .inl rfl⟩
  have hs1 := b1.size
  by_cases hk : k = 1
  case' pos =>
    subst hk
    have hX : enc (nwid 1).toNat u = enc 1 u := rfl
    have hcell : w1.cell? ⟨b, off + 7, none⟩ = some (.int .u8 ((nth (enc 1 u) 0 : Nat) : Int)) := by
      rw [hc1 7 (by omega)]
      congr 3
    obtain ⟨X, hX'⟩ : ∃ X, X = enc (nwid 1).toNat u := ⟨_, rfl⟩
    rw [← hX'] at hX
    have HX' := Lib.hid hX'
    have HC : Hid (∀ j, j < X.length → w1.cell? ⟨b, off + 7 + j, none⟩ = some (.int .u8 ((nth X j : Nat) : Int))) := Lib.hid fun j hj => by
      rw [hX, enc_length] at hj
      obtain rfl : j = 0 := by omega
      rw [hX]; exact hcell
    have hXl : X.length = 1 := by rw [hX, enc_length]
    have hXb : IsBytes X := by rw [hX]; exact enc_bytes _ _
    clear hcell hX hX' hc1 hr1 hx1 h8 hgl h
    go_wp2_with fail
  case' neg =>
    have hkb : (k == 1) = false := by simpa using hk
    have hX : enc (nwid k).toNat u = enc 8 u := by unfold nwid; rw [if_neg hk]; rfl
    obtain ⟨X, hX'⟩ : ∃ X, X = enc (nwid k).toNat u := ⟨_, rfl⟩
    rw [← hX'] at hX
    have HX' := Lib.hid hX'
    have HC : Hid (∀ j, j < X.length → w1.cell? ⟨b, off + j, none⟩ = some (.int .u8 ((nth X j : Nat) : Int))) := Lib.hid fun j hj => by rw [hX] at hj ⊢; exact hc1 j hj
    have hXl : X.length = 8 := by rw [hX, enc_length]
    have hXb : IsBytes X := by rw [hX]; exact enc_bytes _ _
    clear hX hX' hc1 hr1 hx1 h8 hgl h hk
    go_wp2_with fail
  all_goals
    go_loopw [0, 8] (fun v' i wr => ∃ (j : Nat), j ≤ X.length ∧ i = .int .i64 j ∧ OB wr base 5 v' (bs ++ X.take j) ∧ Grew w1 wr v v') (fun _ i _ => X.length - (intOf i).toNat)
    case atStart => exact ⟨0, Nat.zero_le _, rfl, by simpa using hown, Grew.refl _ _⟩
    case round =>
      obtain ⟨j, hj, rfl, ho, hg⟩ := hrel
      have hs := hg.1.size
      by_cases hlt : j < X.length
      · have hfb : wr.heap[b]? = w1.heap[b]? := grew_far hg HLo.out hs1 b hb1 hbw
        have q := Eq.trans (World.cell?_of_block (w := w1) (w' := wr) (by exact hfb)) (HC.out j hlt)
        have Hst := Lib.hid (take_succ_nth X j hlt)
        have hnl := hXb.nth j
        have hle : (bs ++ X.take j).length + 1 ≤ 140737488355328 := by rw [List.length_append, List.length_take]; omega
        have hbl : b < wr.heap.size := by omega
        clear hfb
        go_wp2_with (at_builtin; refine wpList_append_lit8 _ rfl _ _ 25 rfl base 5 i0 Tryz.underlying25 hi hz0 hz1 hz2 _ _ _ (by rfl) ho (by rfl) _ rfl hnl hle (by omega) ?_; intro v1 w2 hown1 hg1 hat1)
        have hg2 := hg.trans (Grew.of hg1 hat1 (Nat.le_succ _))
        go_roundw
        case rel => exact ⟨j + 1, by omega, by go_num, by rw [Hst.out, ← List.append_assoc]; exact hown1, hg2⟩
        case measure => simp [intOf]; omega
      · obtain rfl : j = X.length := by omega
        rw [List.take_length, HX'.out] at ho
        go_wp2
        go_ret
        exact ⟨_, rfl, ho, hG.trans hg⟩

theorem enc2_small {n : Nat} (h : n < 65536) : enc 2 n = [n / 256, n % 256] := by
  simp [enc]
  omega
theorem strBytes_nth {s : ByteArray} {k : Nat} (h : k < s.size) : nth (strBytes s) k = s[k].toNat := by
  rw [nth_lt (by rw [strBytes_length]; exact h)]
  simp [strBytes]
  rfl

set_option maxRecDepth 100000 in
set_option maxHeartbeats 1000000 in
theorem laid_any (base : Nat) (v : Value) (bs : List Nat) (s : ByteArray) (w : World) (h : OB w base 5 v bs) (hB : base ≤ w.heap.size) (hl : bs.length + 1002 ≤ 140737488355328) (hs : s.size ≤ 1000) :
    Calls Tryz.prog 46 #[v, .string s] w (Apps base v (bs ++ encTxt s) w) := by
  obtain ⟨i0, hi, hz0, hz1, hz2⟩ := info_parts u8_info
  have hE : encTxt s = [s.size / 256, s.size % 256] ++ strBytes s := by unfold encTxt; rw [enc2_small (by omega)]
  rw [hE]
  have hw1 : IntKind.u8.wrap ((s.size : Int) / 256) = ((s.size / 256 : Nat) : Int) := by rw [wrapU8]; omega
  have hw2 : IntKind.u8.wrap ((s.size : Int) % 256) = ((s.size % 256 : Nat) : Int) := by rw [wrapU8]; omega
  have HS := Lib.hid (strBytes_length s)
  have HSB := Lib.hid (strBytes_is s)
  have HNT : Hid (∀ (k : Nat) (h : k < s.size), nth (strBytes s) k = s[k].toNat) := Lib.hid fun k h => strBytes_nth h
  obtain ⟨X, hX⟩ : ∃ X, X = strBytes s := ⟨_, rfl⟩
  rw [← hX] at HS HSB HNT ⊢
  have hX2 : IsBytes [s.size / 256, s.size % 256] := by intro x hx; simp at hx; omega
  have hXl : X.length = s.size := HS.out
  have HXl := Lib.hid hXl
  clear hE hX hXl
  obtain ⟨A0, c0, rfl, -, -, -, -⟩ := h.form
  go_enter Tryz.func46, Tryz.ntmps46
  go_wp2_with (at_builtin; refine wpList_append_bytes _ rfl (.tmp 6) (.tmp 15) 25 rfl base 5 i0 Tryz.underlying25 hi hz0 hz1 hz2 (.slice A0 bs.length c0) bs (by rfl) (h.alloc _) (some ⟨w.heap.size, 0, none⟩) 2 (w.heap.size + 1) [s.size / 256, s.size % 256] 2 rfl (by rfl) (RB.lit w 5 hX2 _ rfl) (by omega) (by simp; omega) ?_; intro v1 w1 hown1 hg1 hat1)
  have hG : Grew w w1 (.slice A0 bs.length c0) v1 := ⟨(World.grownBy_alloc w _ _).trans hg1, hat1.elim .inl fun e => .inr ⟨_, e, by simp⟩⟩
  have hs1 := hG.1.size
  clear hg1 hat1 h
  go_loopw [0, 5] (fun v' i wr => ∃ (j : Nat), j ≤ s.size ∧ i = .int .i64 j ∧ OB wr base 5 v' (bs ++ [s.size / 256, s.size % 256] ++ X.take j) ∧ Grew w1 wr v1 v') (fun _ i _ => s.size - (intOf i).toNat)
  case atStart => exact ⟨0, Nat.zero_le _, rfl, by simpa using hown1, Grew.refl _ _⟩
  case round =>
    obtain ⟨j, hj, rfl, ho, hg⟩ := hrel
    have hs := hg.1.size
    by_cases hlt : j < s.size
    · have Hst := Lib.hid (take_succ_nth X j (by rw [HXl.out]; exact hlt))
      have hnl := HSB.out.nth j
      have hle : (bs ++ [s.size / 256, s.size % 256] ++ X.take j).length + 1 ≤ 140737488355328 := by
        have := HXl.out
        rw [List.length_append, List.length_append, List.length_take]; simp; omega
      have Hq : Hid (((s[j].toNat : Nat) : Int) = ((nth X j : Nat) : Int)) := Lib.hid (by rw [HNT.out j hlt])
      go_wp2_with (at_builtin; refine wpList_append_lit8 _ rfl (.tmp 23) (.tmp 27) 25 rfl base 5 i0 Tryz.underlying25 hi hz0 hz1 hz2 _ _ _ (by rfl) ho (by rfl) _ Hq.out hnl hle (by omega) ?_; intro v2 w2 hown2 hg2 hat2)
      have hg3 := hg.trans (Grew.of hg2 hat2 (Nat.le_succ _))
      go_roundw
      case rel => exact ⟨j + 1, by omega, by go_num, by rw [Hst.out, ← List.append_assoc]; exact hown2, hg3⟩
      case measure => simp [intOf]; omega
    · obtain rfl : j = s.size := by omega
      rw [List.take_of_length_le (by rw [HXl.out]; omega), List.append_assoc] at ho
      go_wp2
      go_ret
      exact ⟨_, rfl, ho, hG.trans hg⟩

end Go.Proofs.YtgpahglmhnnobaaGreatDoor

/- The document's Encode. -/
namespace Go.Proofs.YtgpahglmhnnobaaGreatDoor
open Go.RowKit
set_option linter.unusedVariables false

set_option maxRecDepth 100000 in
set_option maxHeartbeats 2000000 in
theorem refEncode_any (v : Vv) (x : Value) (B : Nat) (w : World) (h : VR w B v x) (hB : B ≤ w.heap.size) :
    Calls Tryz.prog 24 #[x] w (NewB (encV v) w) := by
  obtain ⟨i0, hi, hz0, hz1, hz2⟩ := info_parts u8_info
  obtain ⟨A, c, A', c', rfl, h1, h2, h3⟩ := h
  have H0 := Lib.hid (@encV_no v)
  have H1 := Lib.hid (@encV_ok v)
  have HR := Lib.hid (right_iff v).1
  have hEB : encB v = v.k.toNat :: (if 4 < v.k then [v.ns.length + v.ts.length] else []) ++ encNums (elK v.k) (numsOf v) ++ encTxts (txtsOf v) := rfl
  have hn1 := numsOf_list (v := v)
  have hn2 := numsOf_text (v := v)
  have hn3 := numsOf_num (v := v)
  have ht1 := txtsOf_list (v := v)
  have ht2 := txtsOf_text (v := v)
  have ht3 := txtsOf_num (v := v)
  obtain ⟨k, n, s, ns, ts⟩ := v
  have hV : VR w B ⟨k, n, s, ns, ts⟩ (.agg #[.int .i64 k, .int .i64 n, .string s, .slice A ns.length c, .slice A' ts.length c']) := ⟨A, c, A', c', rfl, h1, h2, h3⟩
  unfold vagg
  simp only at hEB hn1 hn2 hn3 ht1 ht2 ht3 h1 h2 ⊢
  obtain ⟨wo, hwo⟩ : ∃ x, x = (w.alloc (.cells #[.int .i64 k, .int .i64 n, .string s, .slice A ns.length c, .slice A' ts.length c'] 42)).alloc (.cells #[] 5) := ⟨_, rfl⟩
  have hVo : VR wo B ⟨k, n, s, ns, ts⟩ (.agg #[.int .i64 k, .int .i64 n, .string s, .slice A ns.length c, .slice A' ts.length c']) := by subst hwo; exact (hV.alloc hB _).alloc (by simp; omega) _
  have hb0 : Below w.heap.size w wo := by subst hwo; exact ((Below.refl _ _).alloc (Nat.le_refl _) _).alloc (by simp) _
  have Bo : Blk wo w.heap.size 42 #[.int .i64 k, .int .i64 n, .string s, .slice A ns.length c, .slice A' ts.length c'] := by subst hwo; exact (Blk.new _ _ _).alloc _
  have Oo : OB wo w.heap.size 5 (.slice (some ⟨w.heap.size + 1, 0, none⟩) 0 0) [] := by
    subst hwo
    have := World.ownsRow_lit (base := w.heap.size) (e := 5) (size := 1) (w.alloc (.cells #[.int .i64 k, .int .i64 n, .string s, .slice A ns.length c, .slice A' ts.length c'] 42)) #[] 0 (by simp) (Nat.zero_le _) rfl
    exact ⟨IsBytes.nil, by simpa [cells8] using this⟩
  have hso := hb0.size
  have HC := Lib.hid (refCheck_any ⟨k, n, s, ns, ts⟩ _ B wo hVo (by omega))
  obtain ⟨E, hE⟩ : ∃ E, E = chk ⟨k, n, s, ns, ts⟩ := ⟨_, rfl⟩
  rw [← hE] at HC H0 H1 HR
  have HW := Lib.hid hwo
  have HR1 := Lib.hid h1
  have HR2 := Lib.hid h2
  clear h1 h2 h3 hwo hE hV hVo
  by_cases h0 : E = 0
  case neg =>
    rw [H0.out h0]
    have hb : (E != 0) = true := by simpa using h0
    clear h0 hn1 hn2 hn3 ht1 ht2 ht3 hEB
    go_enter Tryz.func24, Tryz.ntmps24
    go_wp2_with fail
    rw [← HW.out]
    refine (HC.out).mono ?_
    rintro e w1 ⟨rfl, b1⟩
    have Oo1 := Oo.below' b1
    go_wp2
    go_ret
    exact ⟨_, rfl, Oo1, hb0.trans (b1.mono hb0.size)⟩
  subst h0
  have hr := HR.out rfl
  rw [H1.out rfl, hEB]
  have hcnt := hr.cnt
  have htx := hr.txts
  have hk1 := hr.k1
  have hk2 := hr.k2
  simp only at hk1 hk2 hcnt
  obtain ⟨kn, rfl⟩ : ∃ kn : Nat, k = kn := ⟨k.toNat, by omega⟩
  have hwk : IntKind.u8.wrap (kn : Int) = (kn : Int) := wrapU8_in _ (by omega)
  have HTX := Lib.hid htx
  clear hr H0 H1 HR hEB htx
  rw [Int.toNat_natCast]
  rcases (show (kn : Int) < 4 ∨ (kn : Int) = 4 ∨ 4 < (kn : Int) by omega) with hk | hk | hk
  · rw [hn3 hk, ht3 hk, if_neg (by omega), elK_no (by omega)]
    obtain ⟨X, hX⟩ : ∃ X, X = [kn] ++ encNums (kn : Int) [n] ++ encTxts [] := ⟨_, rfl⟩
    have HX : Hid (X = [kn] ++ encNum kn n) := Lib.hid (by rw [hX]; simp [encNums, encTxts])
    rw [← hX]
    clear hn1 hn2 hn3 ht1 ht2 ht3 hX
    go_enter Tryz.func24, Tryz.ntmps24
    go_wp2_with fail
    rw [← HW.out]
    refine (HC.out).mono ?_
    rintro e w1 ⟨rfl, b1⟩
    have Oo1 := Oo.below' b1
    have hb1 := hb0.trans (b1.mono hb0.size)
    have B1 := Bo.below b1 Bo.lt
    clear Oo b1 hb0 Bo
    obtain ⟨x0, x1, x2, x3, x4⟩ := box_cells B1
    have hs1 := hb1.size
    go_wp2_with (at_builtin; refine wpList_append_lit8 _ rfl (.tmp 11) (.tmp 15) 25 rfl w.heap.size 5 i0 Tryz.underlying25 hi hz0 hz1 hz2 _ [] kn (by rfl) Oo1 (by rfl) (kn : Int) rfl (by omega) (by simp) hs1 ?_; intro v2 w2 hown2 hg2 hat2; obtain ⟨x0, x1, x2, x3, x4⟩ := box_cells (B1.grown hg2 (fun e => own_blk_ne Oo1.2 B1 (by decide) e.symm)))
    have hb2 := Oo1.belowTo hb1 (Nat.le_refl _) hg2 hs1
    rw [List.nil_append] at hown2
    refine (laidNum_any w.heap.size v2 [kn] kn n w2 hown2 hb2.size (by simp)).mono ?_
    rintro e w3 ⟨v3, rfl, ho3, hg3⟩
    rw [← HX.out] at ho3
    have hb3 := hown2.belowTo hb2 (Nat.le_refl _) hg3.1 hb2.size
    go_wp2
    go_ret
    exact ⟨v3, rfl, ho3, hb3⟩
  · rw [hn2 hk, ht2 hk, if_neg (by omega), elK_no (by omega)]
    have hst : s.size ≤ 1000 := HTX.out s (by rw [ht2 hk]; simp)
    obtain ⟨X, hX⟩ : ∃ X, X = [kn] ++ encNums (kn : Int) [] ++ encTxts [s] := ⟨_, rfl⟩
    have HX : Hid (X = [kn] ++ encTxt s) := Lib.hid (by rw [hX]; simp [encNums, encTxts])
    rw [← hX]
    have hk4 : ((kn : Int) == 4) = true := by rw [beq_iff_eq]; exact hk
    have hkl : ¬ (kn : Int) < 4 := by omega
    clear hn1 hn2 hn3 ht1 ht2 ht3 hX hk
    go_enter Tryz.func24, Tryz.ntmps24
    go_wp2_with fail
    rw [← HW.out]
    refine (HC.out).mono ?_
    rintro e w1 ⟨rfl, b1⟩
    have Oo1 := Oo.below' b1
    have hb1 := hb0.trans (b1.mono hb0.size)
    have B1 := Bo.below b1 Bo.lt
    clear Oo b1 hb0 Bo
    obtain ⟨x0, x1, x2, x3, x4⟩ := box_cells B1
    have hs1 := hb1.size
    go_wp2_with (at_builtin; refine wpList_append_lit8 _ rfl (.tmp 11) (.tmp 15) 25 rfl w.heap.size 5 i0 Tryz.underlying25 hi hz0 hz1 hz2 _ [] kn (by rfl) Oo1 (by rfl) (kn : Int) rfl (by omega) (by simp) hs1 ?_; intro v2 w2 hown2 hg2 hat2; obtain ⟨x0, x1, x2, x3, x4⟩ := box_cells (B1.grown hg2 (fun e => own_blk_ne Oo1.2 B1 (by decide) e.symm)))
    have hb2 := Oo1.belowTo hb1 (Nat.le_refl _) hg2 hs1
    rw [List.nil_append] at hown2
    refine (laid_any w.heap.size v2 [kn] s w2 hown2 hb2.size (by simp) hst).mono ?_
    rintro e w3 ⟨v3, rfl, ho3, hg3⟩
    rw [← HX.out] at ho3
    have hb3 := hown2.belowTo hb2 (Nat.le_refl _) hg3.1 hb2.size
    go_wp2
    go_ret
    exact ⟨v3, rfl, ho3, hb3⟩
  · rw [hn1 hk, ht1 hk, if_pos hk, elK_yes hk]
    have htx2 : ∀ t ∈ ts, t.size ≤ 1000 := fun t ht => HTX.out t (by rw [ht1 hk]; exact ht)
    have HTX2 := Lib.hid htx2
    obtain ⟨X, hX⟩ : ∃ X, X = [kn] ++ [ns.length + ts.length] ++ encNums ((kn : Int) - 4) ns ++ encTxts ts := ⟨_, rfl⟩
    have HX := Lib.hid hX
    have hXX : kn :: [ns.length + ts.length] ++ encNums ((kn : Int) - 4) ns ++ encTxts ts = X := by rw [hX]; simp
    rw [hXX]
    clear hn1 hn2 hn3 ht1 ht2 ht3 hX hXX htx2
    have hkl : ¬ (kn : Int) < 4 := by omega
    have hk4 : ((kn : Int) == 4) = false := by rw [beq_eq_false_iff_ne]; omega
    have hwc : IntKind.u8.wrap ((ns.length : Int) + (ts.length : Int)) = ((ns.length + ts.length : Nat) : Int) := by rw [show (ns.length : Int) + (ts.length : Int) = ((ns.length + ts.length : Nat) : Int) by omega]; exact wrapU8_in _ (by omega)
    have hw4 : IntKind.i64.wrap ((kn : Int) - 4) = (kn : Int) - 4 := IntWalk.i64_in _ (by omega)
    go_enter Tryz.func24, Tryz.ntmps24
    go_wp2_with fail
    rw [← HW.out]
    refine (HC.out).mono ?_
    rintro e w1 ⟨rfl, b1⟩
    have Oo1 := Oo.below' b1
    have hb1 := hb0.trans (b1.mono hb0.size)
    have B1 := Bo.below b1 Bo.lt
    clear Oo b1 hb0 Bo
    obtain ⟨x0, x1, x2, x3, x4⟩ := box_cells B1
    have hs1 := hb1.size
    have HB1 := Lib.hid B1
    go_upto_region 7 with (at_builtin; refine wpList_append_lit8 _ rfl (.tmp 11) (.tmp 15) 25 rfl w.heap.size 5 i0 Tryz.underlying25 hi hz0 hz1 hz2 _ [] kn (by rfl) Oo1 (by rfl) (kn : Int) rfl (by omega) (by simp) hs1 ?_; intro v2 w2 hown2 hg2 hat2; obtain ⟨x0, x1, x2, x3, x4⟩ := box_cells (HB1.out.grown hg2 (fun e => own_blk_ne Oo1.2 HB1.out (by decide) e.symm)))
    have hb2 := Oo1.belowTo hb1 (Nat.le_refl _) hg2 hs1
    have B2 := HB1.out.grown hg2 (fun e => own_blk_ne Oo1.2 HB1.out (by decide) e.symm)
    rw [List.nil_append] at hown2
    have hs2 := hb2.size
    have HB2 := Lib.hid B2
    clear B1 HB1 hb1 B2 Oo1 hg2 hat2
    go_wp2_with (at_builtin; refine wpList_append_lit8 _ rfl (.tmp 33) (.tmp 42) 25 rfl w.heap.size 5 i0 Tryz.underlying25 hi hz0 hz1 hz2 _ [kn] (ns.length + ts.length) (by rfl) hown2 (by rfl) _ rfl (by omega) (by simp) hs2 ?_; intro v3 w3 hown3 hg3 hat3)
    have hb3 := hown2.belowTo hb2 (Nat.le_refl _) hg3 hs2
    have B3 := HB2.out.grown hg3 (fun e => own_blk_ne hown2.2 HB2.out (by decide) e.symm)
    obtain ⟨T, hT⟩ : ∃ T, T = [kn] ++ [ns.length + ts.length] := ⟨_, rfl⟩
    have hTl : T.length = 2 := by rw [hT]; rfl
    rw [← hT] at hown3
    have HX2 : Hid (X = T ++ encNums ((kn : Int) - 4) ns ++ encTxts ts) := Lib.hid (by rw [HX.out, hT])
    clear hT HB2 hb2 hown2 hg3 hat3 x0 x1 x2 x3 x4
    obtain ⟨x0, x1, x2, x3, x4⟩ := box_cells B3
    go_loopw [3, 4] (fun bv i wr => ∃ (j : Nat), j ≤ ns.length ∧ i = .int .i64 j ∧ OB wr w.heap.size 5 bv (T ++ encNums ((kn : Int) - 4) (ns.take j)) ∧
        Blk wr w.heap.size 42 #[.int .i64 (kn : Int), .int .i64 n, .string s, .slice A ns.length c, .slice A' ts.length c'] ∧ Below w.heap.size w wr) (fun _ i _ => ns.length - (intOf i).toNat)
    case atStart => exact ⟨0, Nat.zero_le _, rfl, by simpa [encNums] using hown3, B3, hb3⟩
    case round =>
      clear hown3 B3 hb3 x0 x1 x2 x3 x4
      obtain ⟨j, hj, rfl, ho, B4, hb4⟩ := hrel
      obtain ⟨x0, x1, x2, x3, x4⟩ := box_cells B4
      have hs4 := hb4.size
      have hl4 := B4.lt
      have hle := encNums_le ((kn : Int) - 4) (ns.take j)
      have hle2 : (ns.take j).length ≤ ns.length := by rw [List.length_take]; omega
      by_cases hlt : j < ns.length
      · obtain ⟨b, off, rfl, hbB, hc⟩ := (HR1.out.below (hb4.mono hB)).allI (by omega)
        have q := hc j hlt
        have hst := encNums_step (e := (kn : Int) - 4) hlt
        obtain ⟨y, hy⟩ : ∃ y, y = nthI ns j := ⟨_, rfl⟩
        rw [← hy] at q hst
        obtain ⟨P, hP⟩ : ∃ P, P = T ++ encNums ((kn : Int) - 4) (ns.take j) := ⟨_, rfl⟩
        have hPl : P.length ≤ 400 := by rw [hP, List.length_append]; omega
        have HP : Hid (T ++ encNums ((kn : Int) - 4) (ns.take (j + 1)) = P ++ encNum ((kn : Int) - 4) y) := Lib.hid (by rw [hst, ← List.append_assoc, ← hP])
        rw [← hP] at ho
        have hi0 : (0 : Int) ≤ (j : Int) := by omega
        have hi1 : (j : Int) < (ns.length : Int) := by omega
        have HB4 := Lib.hid B4
        have HO := Lib.hid ho
        have hb4' := Lib.hid hb4
        have HL := Lib.hid (laidNum_any w.heap.size u3 P ((kn : Int) - 4) y (wr.drewN 1) (ho.drewN 1) hs4 (by omega))
        clear hc hy hP hst hle hle2 B4 x1 x2 x4 hb4
        go_wp2_with fail
        go_region_held3 (fun w' => w'.cell? ⟨w.heap.size, 0, none⟩ = some (.int .i64 (kn : Int)) ∧ w'.cell? ⟨w.heap.size, 3, none⟩ = some (.slice (some ⟨b, off, none⟩) ns.length c) ∧ w'.cell? ⟨b, off + j, none⟩ = some (.int .i64 y)) (go_keep)
          ((go_at_call 45; refine (HL.out).mono ?_; rintro e w' ⟨v', rfl, ho', hg'⟩; have B5 := Blk.grown (HB4.out.drewN 1) hg'.1 (fun e => own_blk_ne HO.out.2 HB4.out (by decide) e.symm); have y0 : w'.cell? ⟨w.heap.size, 0, none⟩ = some (.int .i64 (kn : Int)) := (by rw [B5.cell 0]; rfl); have y3 : w'.cell? ⟨w.heap.size, 3, none⟩ = some (.slice (some ⟨b, off, none⟩) ns.length c) := (by rw [B5.cell 3]; rfl); have ye : w'.cell? ⟨b, off + j, none⟩ = some (.int .i64 y) := (World.cell?_of_block (hg'.1.block b (show b < wr.heap.size by omega) (fun e => by have := (HO.out.2.lt b e.symm).1; omega))).trans q))
        have hb5 : Below w.heap.size w w' := (HO.out.drewN 1).belowTo (below_drewN hb4'.out 1) (Nat.le_refl _) hg'.1 (by exact hs4)
        rw [← HP.out] at ho'
        go_wp2
        go_roundw
        case rel => exact ⟨j + 1, by omega, by go_num, ho', B5, hb5⟩
        case measure => simp [intOf]; omega
      · obtain rfl : j = ns.length := by omega
        rw [List.take_length] at ho hle
        obtain ⟨P, hP⟩ : ∃ P, P = T ++ encNums ((kn : Int) - 4) ns := ⟨_, rfl⟩
        have hPl : P.length ≤ 400 := by rw [hP, List.length_append]; omega
        have HX3 : Hid (X = P ++ encTxts ts) := Lib.hid (by rw [HX2.out, hP])
        rw [← hP] at ho
        obtain ⟨w6, rfl⟩ : ∃ x : World, x = wr := ⟨_, rfl⟩
        clear hP hle hle2
        go_wp2_with fail
        go_loopw [3, 5] (fun bv i wr => ∃ (j : Nat), j ≤ ts.length ∧ i = .int .i64 j ∧ OB wr w.heap.size 5 bv (P ++ encTxts (ts.take j)) ∧
            Blk wr w.heap.size 42 #[.int .i64 (kn : Int), .int .i64 n, .string s, .slice A ns.length c, .slice A' ts.length c'] ∧ Below w.heap.size w wr) (fun _ i _ => ts.length - (intOf i).toNat)
        case atStart => exact ⟨0, Nat.zero_le _, rfl, by simpa [encTxts] using ho, B4, hb4⟩
        case round =>
          clear ho B4 hb4 x0 x1 x2 x3 x4
          obtain ⟨j, hj, rfl, ho, B4, hb4⟩ := hrel
          obtain ⟨x0, x1, x2, x3, x4⟩ := box_cells B4
          have hs4 := hb4.size
          have hl4 := B4.lt
          have hle := encTxts_le (ts.take j) 1000 (fun t ht => HTX2.out t (List.mem_of_mem_take ht))
          have hle2 : (ts.take j).length ≤ ts.length := by rw [List.length_take]; omega
          by_cases hlt : j < ts.length
          · obtain ⟨b, off, rfl, hbB, hc⟩ := (HR2.out.below (hb4.mono hB)).allS (by omega)
            have q := hc j hlt
            have hst := encTxts_step hlt
            have hy1 := HTX2.out (nthS ts j) (by rw [nthS_lt hlt]; exact List.getElem_mem hlt)
            obtain ⟨y, hy⟩ : ∃ y, y = nthS ts j := ⟨_, rfl⟩
            rw [← hy] at q hst hy1
            obtain ⟨Q, hQ⟩ : ∃ Q, Q = P ++ encTxts (ts.take j) := ⟨_, rfl⟩
            have hQl : Q.length ≤ 50000 := by rw [hQ, List.length_append]; omega
            have HQ : Hid (P ++ encTxts (ts.take (j + 1)) = Q ++ encTxt y) := Lib.hid (by rw [hst, ← List.append_assoc, ← hQ])
            rw [← hQ] at ho
            clear hc hy hQ hst hle hle2
            go_wp2_with fail
            refine (laid_any w.heap.size _ Q y wr ho hs4 (by omega) hy1).mono ?_
            rintro e w7 ⟨v7, rfl, ho7, hg7⟩
            have B7 := B4.grown hg7.1 (fun e => own_blk_ne ho.2 B4 (by decide) e.symm)
            have hb7 := ho.belowTo hb4 (Nat.le_refl _) hg7.1 hs4
            rw [← HQ.out] at ho7
            go_wp2
            go_roundw
            case rel => exact ⟨j + 1, by omega, by go_num, ho7, B7, hb7⟩
            case measure => simp [intOf]; omega
          · obtain rfl : j = ts.length := by omega
            rw [List.take_length] at ho
            go_wp2
            go_ret
            exact ⟨_, rfl, by rw [HX3.out]; exact ho, hb4⟩

end Go.Proofs.YtgpahglmhnnobaaGreatDoor
