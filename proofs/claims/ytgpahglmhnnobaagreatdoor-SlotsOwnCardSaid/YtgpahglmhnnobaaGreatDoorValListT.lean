/- The program's reading of a list of texts. -/
import Derived.Test.YtgpahglmhnnobaaGreatDoorValRead2
import Derived.Deep.Cut
import Derived.Deep.RegionHeld3
import Derived.Deep.RegionLaw
import Derived.BigRegion
import Derived.IntWalk
namespace Go.Proofs.YtgpahglmhnnobaaGreatDoor
open Go.RowKit
set_option linter.unusedVariables false

set_option maxRecDepth 100000 in
set_option maxHeartbeats 2000000 in
theorem readListT_any (base g q : Nat) (bs : List Nat) (kn : Nat) (w : World) (h : Rd w base g q bs 0) (hl8 : bs.length ≤ 140737488355328) (hk1 : 8 ≤ kn) (hk2 : kn ≤ 8) (m : Nat) (r : List Nat) (hbs : bs = m :: r) (hm : ¬ 40 < m) :
    Calls Tryz.prog 96 #[.pointer (some ⟨g, 0, none⟩), .int .i64 (kn : Int)] w (RdPost base g q (mkV kn (elems ((kn : Int) - 4) m r).xs (elems ((kn : Int) - 4) m r).ts) (r.drop (elems ((kn : Int) - 4) m r).c) (elems ((kn : Int) - 4) m r).e w) := by
  subst hbs
  obtain ⟨i0, hi, hz0, hz1, hz2⟩ := info_parts str_info
  have hg := h.lt
  have hmb := h.bytes m (List.mem_cons_self ..)
  obtain ⟨wo, hwo⟩ : ∃ x, x = (w.alloc (.cells #[.int .i64 0, .int .i64 0, .string ⟨#[]⟩, .slice none 0 0, .slice none 0 0] 42)).alloc (.cells #[.int .i64 (kn : Int), .int .i64 0, .string ⟨#[]⟩, .slice none 0 0, .slice none 0 0] 42) := ⟨_, rfl⟩
  have Ro : Rd wo base g q (m :: r) 0 := by
    subst hwo
    exact (h.below ((Below.refl _ _).alloc (Nat.le_refl _) _)).below ((Below.refl _ _).alloc (Nat.le_refl _) _)
  have B1 : Blk wo w.heap.size 42 #[.int .i64 0, .int .i64 0, .string ⟨#[]⟩, .slice none 0 0, .slice none 0 0] := by subst hwo; exact (Blk.new _ _ _).alloc _
  have B2 : Blk wo (w.heap.size + 1) 42 #[.int .i64 (kn : Int), .int .i64 0, .string ⟨#[]⟩, .slice none 0 0, .slice none 0 0] := by
    subst hwo
    have := Blk.new (w.alloc (.cells #[.int .i64 0, .int .i64 0, .string ⟨#[]⟩, .slice none 0 0, .slice none 0 0] 42)) 42 #[.int .i64 (kn : Int), .int .i64 0, .string ⟨#[]⟩, .slice none 0 0, .slice none 0 0]
    simpa using this
  have hO : Only (fun k => k = g) w wo := by subst hwo; exact ((Only.refl (fun k => k = g) w).alloc _).alloc _
  have HW := Lib.hid hwo
  have HN0 := RNum_there base g q 1 (m :: r) wo Ro (by decide) (by simp)
  rw [show be ((m :: r).take 1) = m by simp [be, beFrom], List.drop_one, List.tail_cons] at HN0
  have HN := Lib.hid HN0
  have hwm : IntKind.i64.wrap (m : Int) = (m : Int) := by rw [IntKind.wrap_i64]; omega
  have HC := Lib.hid fun w => checkCount_any (m : Int) w
  rw [if_neg (by omega)] at HC
  have hen : (kn : Int) - 4 = ((kn - 4 : Nat) : Int) := by omega
  have HEK := Lib.hid fun w => elementKind_any (kn : Int) w (by omega) (by omega)
  rw [elK_yes (by omega), hen] at HEK
  rw [hen]
  obtain ⟨en, hen'⟩ : ∃ en, en = kn - 4 := ⟨_, rfl⟩
  rw [← hen'] at HEK ⊢
  have hrl : r.length ≤ 140737488355328 := by simp at hl8; omega
  have HEN := Lib.hid hen'
  have hen1 : 1 ≤ en := by omega
  have hen2 : en ≤ 4 := by omega
  have hk8 : ((kn : Int) == 8) = true := by rw [beq_iff_eq]; omega
  have HMK : Hid (∀ xs ts, mkV kn xs ts = ⟨kn, 0, .empty, [], ts⟩) := Lib.hid fun xs ts => by unfold mkV; rw [if_neg (by omega), if_neg (by omega), if_neg (by omega), if_pos (by omega)]
  have HNORM := Lib.hid (elems_norm (en : Int) m r).symm
  unfold RdPost
  obtain ⟨F, hF⟩ : ∃ F, F = elems (en : Int) m r := ⟨_, rfl⟩
  rw [← hF] at HNORM ⊢
  have HF := Lib.hid hF
  clear HN0 hwo h Ro hen hen' hl8 hF
  go_enter Tryz.func96, Tryz.ntmps96
  go_wp2_with fail
  rw [← HW.out]
  refine (HN.out).mono ?_
  rintro e w1 ⟨rfl, R1, hc1⟩
  have C1 := B1.only hc1 (by omega)
  have C2 := B2.only hc1 (by omega)
  have hO1 := hO.trans hc1 (fun _ _ h => h)
  clear B1 B2 hO hc1
  go_wp2_with (go_at_call 87; refine (HC.out _).mono ?_; rintro e w' ⟨rfl, rfl⟩)
  go_loopw [23] (fun i wr => ∃ (j c : Nat) (xs : List Int) (ts : List ByteArray) (u : Value), j ≤ m ∧ i = .int .i64 j ∧ F = (elems (en : Int) (m - j) (r.drop c)).pre xs ts c ∧ ts.length = j ∧ Rd wr base g q (r.drop c) 0 ∧
      Blk wr w.heap.size 42 #[.int .i64 0, .int .i64 0, .string ⟨#[]⟩, .slice none 0 0, .slice none 0 0] ∧ Blk wr (w.heap.size + 1) 42 #[.int .i64 (kn : Int), .int .i64 0, .string ⟨#[]⟩, .slice none 0 0, u] ∧
      OL svl wr w.heap.size 9 u ts ∧ Only (fun k => k = g) w wr) (fun i _ => m - (intOf i).toNat)
  case atStart => exact ⟨0, 0, [], [], .slice none 0 0, Nat.zero_le _, rfl, (by rw [Nat.sub_zero, List.drop_zero, ← HF.out]; exact HNORM.out), rfl, R1, C1, C2, OL.nil _ _ _ _, hO1⟩
  case round =>
    clear R1 C1 C2 hO1
    obtain ⟨j, c, xs, ts, u, hj, rfl, hFj, hxl, R2, C1, C2, O2, hO2⟩ := hrel
    have hs2 := hO2.size
    by_cases hlt : j < m
    · obtain ⟨mj, hmj⟩ : ∃ mj, m - j = mj + 1 := ⟨m - j - 1, by omega⟩
      rw [hmj] at hFj
      have hdl : (r.drop c).length ≤ r.length := by rw [List.length_drop]; omega
      have HS := Lib.hid (readScalar_any base g q (r.drop c) en wr R2 (by omega) hen1 hen2)
      unfold RdPost at HS
      have HB := Lib.hid (fun h => hFj.trans (congrArg (El.pre xs ts c) (elems_bad (m := mj) (e := (en : Int)) (bs := r.drop c) h)))
      have HGd : Hid ((scalar (en : Int) (r.drop c)).e = 0 → F = (elems (en : Int) (m - (j + 1)) (r.drop (c + (scalar (en : Int) (r.drop c)).c))).pre (xs ++ [(scalar (en : Int) (r.drop c)).x]) (ts ++ [(scalar (en : Int) (r.drop c)).t]) (c + (scalar (en : Int) (r.drop c)).c)) := Lib.hid fun h => by
        rw [hFj, elems_good h, pre_pre, List.drop_drop, show m - (j + 1) = mj by omega]
      have HDD := Lib.hid (List.drop_drop (l := r) (i := (scalar (en : Int) (r.drop c)).c) (j := c))
      obtain ⟨S, hS⟩ : ∃ S, S = scalar (en : Int) (r.drop c) := ⟨_, rfl⟩
      rw [← hS] at HS HB HGd HDD
      have hgl := hg
      have Hhx := Lib.hid hxl
      clear hFj hmj hS hdl hxl
      go_wp2_with (go_at_call 66; refine (HEK.out _).mono ?_; rintro e w' ⟨rfl, rfl⟩)
      refine (HS.out).mono ?_
      rintro e w3 ⟨v', A3, c3, A4, c4, rfl, hv, hc3⟩
      have D1 := C1.only hc3 (by have := C1.lt; omega)
      have D2 := C2.only hc3 (by have := C2.lt; omega)
      have P2 := keep_only O2 hc3 (fun k hk => by omega)
      have hO3 := hO2.trans hc3 (fun _ _ h => h)
      have hs3 := hO3.size
      obtain ⟨v1, v2, v3, v4, v5⟩ := v'
      by_cases h0 : S.e = 0
      · obtain ⟨hvv, -, -, R3⟩ := hv h0
        rw [HDD.out] at R3
        have HG2 := Lib.hid (HGd.out h0)
        have hh := h0
        rw [hh]
        obtain ⟨A2, c2, rfl, -, -, -, hlo⟩ := O2.form
        have n1 := own_blk_ne P2.2 D2 (by decide)
        have n2 := own_blk_ne P2.2 D1 (by decide)
        have VX : Hid (v3 = S.t) := Lib.hid (by
          have : (Vv.mk v1 v2 v3 v4 v5).s = (mkV (en : Int) [S.x] [S.t]).s := by rw [hvv]
          have h2 : (mkV (en : Int) [S.x] [S.t]).s = S.t := by unfold mkV; exact if_pos (by have := HEN.out; omega)
          exact this.trans h2)
        have Hlo := Lib.hid hlo
        clear h0 hh hv hvv C1 C2 O2 R2 HB HGd hc3
        obtain ⟨w4, hw4⟩ : ∃ x, x = w3.alloc (.cells #[.int .i64 v1, .int .i64 v2, .string v3, .slice A3 v4.length c3, .slice A4 v5.length c4] 42) := ⟨_, rfl⟩
        have E1 : Blk w4 w.heap.size 42 #[.int .i64 0, .int .i64 0, .string ⟨#[]⟩, .slice none 0 0, .slice none 0 0] := by rw [hw4]; exact D1.alloc _
        have E2 : Blk w4 (w.heap.size + 1) 42 #[.int .i64 (kn : Int), .int .i64 0, .string ⟨#[]⟩, .slice none 0 0, .slice A2 ts.length c2] := by rw [hw4]; exact D2.alloc _
        have E3 : Blk w4 w3.heap.size 42 #[.int .i64 v1, .int .i64 v2, .string v3, .slice A3 v4.length c3, .slice A4 v5.length c4] := by rw [hw4]; exact Blk.new _ _ _
        have Q2 : OL svl w4 w.heap.size 9 (.slice A2 ts.length c2) ts := by rw [hw4]; exact P2.alloc _
        have R4 : Rd w4 base g q (r.drop (c + S.c)) 0 := by rw [hw4]; exact R3.below ((Below.refl _ _).alloc (Nat.le_refl _) _)
        have hO4 : Only (fun k => k = g) w w4 := by rw [hw4]; exact hO3.alloc _
        have hs4 := hO4.size
        have HW4 := Lib.hid hw4
        clear hw4 D1 D2 P2 R3 hO3
        go_upto_region 11 with fail
        rw [← HW4.out]
        obtain ⟨y0, y1, y2, y3, y4⟩ := box_cells E3
        obtain ⟨x0, x1, x2, x3, x4⟩ := box_cells E2
        have hby : (ts.length + 1) * 16 ≤ 140737488355328 := by have := Hhx.out; omega
        go_wp2_with (at_builtin; go_loud (refine wpList_append_elem (f := svl) _ rfl (.tmp 39) (.tmp 42) 40 (by rfl) w.heap.size 9 i0 _ 16 Tryz.underlying40 hi hz0 hz1 hz2 rfl (.slice A2 ts.length c2) ts (by rfl) Q2 v3 (svl_ok _) (by rfl) hby (by omega) hs4 ?_); intro u5 w5 O5 hg5 hat5; have E25 := Blk.grown E2 hg5 (Ne.symm n1); obtain ⟨x0, x1, x2, x3, x4⟩ := box_cells E25; have f3 := E25.frozen 4; obtain ⟨A5, c5, rfl, -, -, -, -⟩ := O5.form)
        have E15 := Blk.grown E1 hg5 (Ne.symm n2)
        have hO5 : Only (fun k => k = g ∨ (Value.slice A2 ts.length c2).ownBlock = some k) w4 w5 := (Only.of_grown hg5).mono fun i _ hi => .inr hi
        have R5 : Rd w5 base g q (r.drop (c + S.c)) 0 := Rd.only R4 (Only.of_grown hg5) (fun e => by have := (Hlo.out g e).1; omega) (fun e => by have := (Hlo.out q e).1; omega)
        have hO6 : Only (fun k => k = g) w w5 := hO4.trans (Only.of_grown hg5) fun i hi e => by have := (Hlo.out i e).1; omega
        have hl5 : (ts ++ [v3]).length = ts.length + 1 := by simp
        rw [hl5] at O5
        clear hl5
        have n5 := own_blk_ne O5.2 E25 (by decide)
        have hg2 := R5.lt
        go_wp2
        go_roundw
        case rel =>
          refine ⟨j + 1, c + S.c, xs ++ [S.x], ts ++ [S.t], .slice A5 (ts.length + 1) c5, by omega, by go_num, HG2.out, by rw [List.length_append, Hhx.out]; rfl, Rd.only R5 ((Only.refl (fun k => k = w.heap.size + 1) w5).setCell (p := ⟨w.heap.size + 1, 4, none⟩) (.inl rfl) _) (by omega) (by omega), E15.far (by simp) _, ?_, ?_, hO6.setCell (.inr (by simp)) _⟩
          · have := E25.set_ 4 (.slice A5 (ts.length + 1) c5)
            simpa using this
          · rw [← VX.out]
            exact O5.keep fun k hk => Below.heap_setCell _ _ _ _ (fun e => n5 (by have e' : k = w.heap.size + 1 := e; rw [← e']; exact hk))
        case measure => simp [intOf]; omega
      · have hne : (S.e != 0) = true := by simpa using h0
        have hFe : F.e = S.e := by
          rw [HB.out h0]
          unfold El.pre El.no
          rw [if_pos h0]
        obtain ⟨A2, c2, rfl, -, -, -, -⟩ := O2.form
        have HFe := Lib.hid hFe
        have h0' := Lib.hid h0
        have D1' := D1.alloc (.cells #[.int .i64 v1, .int .i64 v2, .string v3, .slice A3 v4.length c3, .slice A4 v5.length c4] 42)
        have D2' := D2.alloc (.cells #[.int .i64 v1, .int .i64 v2, .string v3, .slice A3 v4.length c3, .slice A4 v5.length c4] 42)
        obtain ⟨x0, x1, x2, x3, x4⟩ := box_cells D2
        obtain ⟨z0, z1, z2, z3, z4⟩ := box_cells D1
        have f0 := D1.frozen 0
        have f1 := D1.frozen 1
        have f3 := D1.frozen 2
        have f4 := D1.frozen 3
        have f5 := D1.frozen 4
        have hl1 := D1.lt
        have hl2 := D2.lt
        clear hv h0 hFe C1 C2 O2 R2 HB HGd hc3 D1' D2'
        go_wp2
        refine bodyPost_ret (v := .tuple #[.agg #[.int .i64 (kn : Int), .int .i64 0, .string ⟨#[]⟩, .slice none 0 0, .slice A2 ts.length c2], .int .i64 S.e]) (by simp [results, Tryz.results96, go_sem, *]) rfl ⟨⟨kn, 0, .empty, [], ts⟩, none, 0, A2, c2, (by rw [HFe.out]; rfl), fun hh => absurd (HFe.out.symm.trans hh) h0'.out, (Only.set5 hO3 (.inr (Nat.le_refl _)) _ _ _ _ _).alloc _⟩
    · obtain rfl : j = m := by omega
      rw [Nat.sub_self] at hFj
      have hF2 : F = ⟨xs, ts, c, 0⟩ := by rw [hFj]; simp [elems, El.pre]
      obtain ⟨A2, c2, rfl, -, -, -, -⟩ := O2.form
      have HF2 := Lib.hid hF2
      have Hhx := Lib.hid hxl
      have HC1 := Lib.hid C1
      have m1 := own_blk_ne O2.2 C1 (by decide)
      have HO2 := Lib.hid O2
      have hO2' := Lib.hid hO2
      obtain ⟨x0, x1, x2, x3, x4⟩ := box_cells C2
      obtain ⟨z0, z1, z2, z3, z4⟩ := box_cells C1
      have f0 := C1.frozen 0
      have f1 := C1.frozen 1
      have f3 := C1.frozen 2
      have f4 := C1.frozen 3
      have f5 := C1.frozen 4
      have hl1 := C1.lt
      have hl2 := C2.lt
      have hgl := R2.lt
      have HE := Lib.hid (Err_any base g q (r.drop c) 0 (wr.drewN 1) R2)
      clear hFj hF2 C1 C2 O2 hO2 hxl
      go_wp2_with fail
      go_region_held3 (fun w' => w'.cell? ⟨w.heap.size + 1, 0, none⟩ = some (.int .i64 (kn : Int)) ∧ w'.cell? ⟨w.heap.size + 1, 1, none⟩ = some (.int .i64 0) ∧ w'.cell? ⟨w.heap.size + 1, 2, none⟩ = some (.string ⟨#[]⟩) ∧ w'.cell? ⟨w.heap.size + 1, 3, none⟩ = some (.slice none 0 0) ∧ w'.cell? ⟨w.heap.size + 1, 4, none⟩ = some (.slice A2 ts.length c2)) (go_keep)
        ((go_at_call 108; refine (HE.out).mono ?_; rintro e w' ⟨rfl, rfl⟩))
      go_wp2
      refine bodyPost_ret (v := .tuple #[.agg #[.int .i64 (kn : Int), .int .i64 0, .string ⟨#[]⟩, .slice none 0 0, .slice A2 ts.length c2], .int .i64 0]) (by simp [results, Tryz.results96, go_sem, *]) rfl ⟨⟨kn, 0, .empty, [], ts⟩, none, 0, A2, c2, (by rw [HF2.out]; rfl), fun hh => ?_, Only.set5 (hO2'.out.drewN 1) (.inr (Nat.le_refl _)) _ _ _ _ _⟩
      rw [HF2.out, HMK.out]
      exact ⟨rfl, OL.nil _ _ _ _, OL.set5 (HO2.out.drewN 1) m1 _ _ _ _ _, Rd.only R2 (Only.set5 ((Only.refl (fun k => k = w.heap.size) wr).drewN 1) (.inl rfl) _ _ _ _ _) (by omega) (by omega)⟩

end Go.Proofs.YtgpahglmhnnobaaGreatDoor
