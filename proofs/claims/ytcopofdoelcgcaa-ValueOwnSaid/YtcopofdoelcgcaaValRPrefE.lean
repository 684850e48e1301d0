/- The document's Prefix: a list of texts. -/
import Derived.Test.YtcopofdoelcgcaaValRP2
import Derived.IntWalk
namespace Go.Proofs.Ytcopofdoelcgcaa
open Go.RowKit
set_option linter.unusedVariables false

set_option maxRecDepth 100000 in
set_option maxHeartbeats 2000000 in
theorem rprefE (b off : Nat) (cap B : Nat) (bs : List Nat) (w : World) (h : RB w B (some ⟨b, off, none⟩) bs) (hB : B ≤ w.heap.size) (hc : bs.length ≤ cap) (hm : cap ≤ maxLen)
    (kn m : Nat) (r : List Nat) (hbs : bs = kn :: m :: r) (hk1 : 8 ≤ kn) (hk2 : kn ≤ 8) (hm40 : ¬ 40 < m) :
    Calls Try.prog 27 #[.slice (some ⟨b, off, none⟩) bs.length cap] w (PrefPost bs w) := by
  obtain ⟨i0, hi, hz0, hz1, hz2⟩ := info_parts str_info
  unfold maxLen at hm
  have hPE : prefixE bs = ⟨kn, 2, elems ((kn : Int) - 4) m r⟩ := by rw [hbs]; exact prefix_list ⟨by omega, by omega⟩ (by omega) hm40
  have hlen : bs.length = r.length + 2 := by rw [hbs]; rfl
  have hn0 : nth bs 0 = kn := by rw [hbs]; rfl
  have hdr : ∀ c, bs.drop (c + 2) = r.drop c := fun c => by rw [hbs]; rfl
  obtain ⟨wo, hwo, B0, B1, hb0, hso⟩ := two_blocks w
  have Ro := h.below' hb0 hB
  have c0 := Ro.get (k := 0) (by omega)
  rw [hn0, Nat.add_zero] at c0
  have hwk : IntKind.i64.wrap (kn : Int) = (kn : Int) := by rw [IntKind.wrap_i64]; omega
  have l0 : ((bs.length : Int) == 0) = false := by rw [beq_eq_false_iff_ne]; omega
  obtain ⟨w1, hw1⟩ : ∃ x, x = wo.alloc (.cells #[.int .i64 (kn : Int), .int .i64 0, .string ⟨#[]⟩, .slice none 0 0, .slice none 0 0] 26) := ⟨_, rfl⟩
  obtain ⟨C0, C1, C2, hb1, R1⟩ := three_blocks hw1 B0 B1 hb0 hso hB Ro
  have hn1 : nth bs 1 = m := by rw [hbs]; rfl
  have l1 : ((bs.length : Int) == 1) = false := by rw [beq_eq_false_iff_ne]; omega
  have c1 := R1.get (k := 1) (by omega)
  rw [hn1] at c1
  have hwm : IntKind.i64.wrap (m : Int) = (m : Int) := by rw [IntKind.wrap_i64]; omega
  have hlb : 1 < bs.length := by omega
  have HMK : Hid (∀ xs ts, mkV kn xs ts = ⟨kn, 0, .empty, [], ts⟩) := Lib.hid fun xs ts => by unfold mkV; rw [if_neg (by omega), if_neg (by omega), if_neg (by omega), if_pos (by omega)]
  have HNORM := Lib.hid (elems_norm ((kn : Int) - 4) m r).symm
  obtain ⟨F, hF⟩ : ∃ F, F = elems ((kn : Int) - 4) m r := ⟨_, rfl⟩
  rw [← hF] at HNORM hPE
  have HPE := Lib.hid hPE
  have HF := Lib.hid hF
  have HW := Lib.hid hwo
  have HW1 := Lib.hid hw1
  have HLEN := Lib.hid hlen
  have HDR := Lib.hid hdr
  have HSO := Lib.hid hso
  have hGl : w.heap.size + 1 < wo.heap.size := by omega
  have hrl : r.length + 2 ≤ 9223372036854775807 := by omega
  have hll : r.length + 2 ≤ bs.length := by omega
  have hll2 : bs.length ≤ r.length + 2 := by omega
  obtain ⟨x0, x1, x2, x3, x4⟩ := box_cells C2
  clear hwo hw1 hlen hdr hso hF hPE hbs h hn0 hb0 Ro B0 B1 hn1
  have q1 : decide ((kn : Int) < 1) = false := decide_eq_false (by omega)
  have q2 : decide (8 < (kn : Int)) = false := decide_eq_false (by omega)
  have q3 : decide (4 < (kn : Int)) = true := decide_eq_true (by omega)
  have q4 : decide (40 < (m : Int)) = false := decide_eq_false (by omega)
  go_enter Try.func27, Try.ntmps27
  go_upto_region 4 with fail
  rw [← HW.out]
  go_upto_region 5 with fail
  rw [← HW1.out]
  go_wp2_with fail
  go_quiet (fail)
  go_wp2_with fail
  go_quiet (fail)
  go_wp2_with fail
  go_loopw [10, 7] (fun i t wr => ∃ (j c a : Nat) (xs : List Int) (ts : List ByteArray) (u : Value), j ≤ m ∧ i = .int .i64 j ∧ a = c + 2 ∧ t = .int .i64 a ∧ c ≤ r.length ∧ F = (elems ((kn : Int) - 4) (m - j) (r.drop c)).pre xs ts c ∧ xs.length = j ∧ ts.length = j ∧ RB wr B (some ⟨b, off, none⟩) bs ∧
      Blk wr w.heap.size 26 #[.int .i64 0, .int .i64 0, .string ⟨#[]⟩, .slice none 0 0, .slice none 0 0] ∧ Blk wr (w.heap.size + 1) 26 #[.int .i64 0, .int .i64 0, .string ⟨#[]⟩, .slice none 0 0, .slice none 0 0] ∧ Blk wr wo.heap.size 26 #[.int .i64 (kn : Int), .int .i64 0, .string ⟨#[]⟩, .slice none 0 0, u] ∧
      OL svl wr w.heap.size 9 u ts ∧ Below w.heap.size w wr) (fun i _ _ => m - (intOf i).toNat)
  case atStart =>
    refine ⟨0, 0, 2, [], [], .slice none 0 0, Nat.zero_le _, rfl, rfl, rfl, Nat.zero_le _, (by rw [Nat.sub_zero, List.drop_zero, ← HF.out]; exact HNORM.out), rfl, rfl, R1.drewN _, C0.drewN _, C1.drewN _, C2.drewN _, OL.nil _ _ _ _, below_drewN hb1 _⟩
  case round =>
    clear R1 C0 C1 C2 hb1 x0 x1 x2 x3 x4
    obtain ⟨j, c, a, xs, ts, u, hj, rfl, ha, rfl, hcl, hFj, hxl, htl, R2, D0, D1, D2, O2, hb2⟩ := hrel
    have hs2 := hb2.size
    by_cases hlt : j < m
    · obtain ⟨mj, hmj⟩ : ∃ mj, m - j = mj + 1 := ⟨m - j - 1, by omega⟩
      rw [hmj] at hFj
      have hdl : (r.drop c).length = r.length - c := List.length_drop
      have HB := Lib.hid (fun h => hFj.trans (congrArg (El.pre xs ts c) (elems_bad (m := mj) (e := ((kn : Int) - 4)) (bs := r.drop c) h)))
      have HGd : Hid ((scalar ((kn : Int) - 4) (r.drop c)).e = 0 → F = (elems ((kn : Int) - 4) (m - (j + 1)) (r.drop (c + (scalar ((kn : Int) - 4) (r.drop c)).c))).pre (xs ++ [(scalar ((kn : Int) - 4) (r.drop c)).x]) (ts ++ [(scalar ((kn : Int) - 4) (r.drop c)).t]) (c + (scalar ((kn : Int) - 4) (r.drop c)).c)) := Lib.hid fun h => by
        rw [hFj, elems_good h, pre_pre, List.drop_drop, show m - (j + 1) = mj by omega]
      obtain ⟨A2, c2, rfl, -, -, -, hlo⟩ := O2.form
      have Hhx := Lib.hid hxl
      have Hht := Lib.hid htl
      have Ha := Lib.hid ha
      have hal : a ≤ bs.length := by omega
      have hac : a ≤ c + 2 := by omega
      have hca : c + 2 ≤ a := by omega
      have hE4 : ((kn : Int) - 4) = 4 := by omega
      by_cases hsh : (r.drop c).length < 2
      · have hS : scalar ((kn : Int) - 4) (r.drop c) = ⟨0, .empty, 0, 10⟩ := by rw [hE4]; exact scalar_t1 hsh
        have hF10 : (prefixE bs).q.e = 10 := by
          rw [HPE.out]
          show F.e = 10
          rw [HB.out (by rw [hS]; decide), hS]
          rfl
        have HP := Lib.hid (fun w' => @bad_post bs w w' 10 hF10 (by decide))
        obtain ⟨x0, x1, x2, x3, x4⟩ := box_cells D2
        obtain ⟨z0, z1, z2, z3, z4⟩ := box_cells D0
        obtain ⟨y0, y1, y2, y3, y4⟩ := box_cells D1
        obtain ⟨f0, f1, f2, f3, f4⟩ := free_cells D0
        have hl1 := D0.lt
        have hl2 := D1.lt
        have hcmp : (bs.length : Int) - a < 2 := by omega
        clear hS hF10 HB HGd hFj hmj O2 D0 D1 D2 hxl htl ha R2 hdl hsh hE4
        go_wp2
        refine bodyPost_ret (v := .tuple #[.agg #[.int .i64 0, .int .i64 0, .string ⟨#[]⟩, .slice none 0 0, .slice none 0 0], .int .i64 0, .int .i64 10]) (by simp [results, Try.results27, go_sem, *]) rfl (HP.out _ ?_)
        exact set5_below hb2 (Nat.le_refl _)
      · have hXl : ((r.drop c).take 2).length = 2 := by rw [List.length_take]; omega
        have hcut := R2.cut rfl a (a + 2) (by omega) (by omega)
        have hXe : (bs.take (a + 2)).drop a = (r.drop c).take 2 := by rw [List.drop_take, ha, HDR.out]; congr 1; omega
        rw [hXe] at hcut
        have hS2 : 1000 < be ((r.drop c).take 2) → scalar ((kn : Int) - 4) (r.drop c) = ⟨0, .empty, 0, 44⟩ := fun h => by rw [hE4]; exact scalar_t2 hsh h
        have hS3 : ¬ 1000 < be ((r.drop c).take 2) → (r.drop c).length < 2 + be ((r.drop c).take 2) → scalar ((kn : Int) - 4) (r.drop c) = ⟨0, .empty, 0, 10⟩ := fun h h2 => by rw [hE4]; exact scalar_t3 hsh h h2
        have hS4 : ¬ 1000 < be ((r.drop c).take 2) → ¬ (r.drop c).length < 2 + be ((r.drop c).take 2) → scalar ((kn : Int) - 4) (r.drop c) = ⟨0, strOf (((r.drop c).drop 2).take (be ((r.drop c).take 2))), 2 + be ((r.drop c).take 2), 0⟩ := fun h h2 => by rw [hE4]; exact scalar_t4 hsh h h2
        have hN64 : be ((r.drop c).take 2) < 65536 := by
          have := be_all _ hcut.1
          rw [hXl] at this
          have h3 : (256 : Nat) ^ 2 = 65536 := rfl
          omega
        have hV : ∀ cc, Calls Try.prog 49 #[.slice (some ⟨b, off + a, none⟩) 2 cc] wr fun e w' => e = .returned (.int .u64 (be ((r.drop c).take 2) : Nat)) ∧ wr = w' := fun cc => by
          have := Val_any (some ⟨b, off + a, none⟩) cc B _ wr hcut (by omega)
          rwa [hXl] at this
        have HV := Lib.hid hV
        obtain ⟨N, hN⟩ : ∃ N, N = be ((r.drop c).take 2) := ⟨_, rfl⟩
        rw [← hN] at HV hN64 hS2 hS3 hS4
        have hwN : IntKind.i64.wrap (N : Int) = (N : Int) := by rw [IntKind.wrap_i64]; omega
        have hcmp : ¬ (bs.length : Int) - a < 2 := by omega
        have hcap : a + 2 ≤ cap := by omega
        obtain ⟨x0, x1, x2, x3, x4⟩ := box_cells D2
        by_cases hbig : 1000 < N
        · have hS := hS2 hbig
          have hFe : (prefixE bs).q.e = 44 := by
            rw [HPE.out]
            show F.e = 44
            rw [HB.out (by rw [hS]; decide), hS]
            rfl
          have HP := Lib.hid (fun w' => @bad_post bs w w' 44 hFe (by decide))
          obtain ⟨z0, z1, z2, z3, z4⟩ := box_cells D0
          obtain ⟨y0, y1, y2, y3, y4⟩ := box_cells D1
          obtain ⟨f0, f1, f2, f3, f4⟩ := free_cells D0
          have hl1 := D0.lt
          have hl2 := D1.lt
          clear hXl hcut hXe hS2 hS3 hS4 hV hN hS hFe HGd HB hFj hmj O2 D0 D1 D2 hxl htl ha R2 hsh hdl hE4
          go_wp2_with (go_at_call 49; refine (HV.out _).mono ?_; rintro e w' ⟨rfl, rfl⟩)
          refine bodyPost_ret (v := .tuple #[.agg #[.int .i64 0, .int .i64 0, .string ⟨#[]⟩, .slice none 0 0, .slice none 0 0], .int .i64 0, .int .i64 44]) (by simp [results, Try.results27, go_sem, *]) rfl (HP.out _ ?_)
          exact set5_below hb2 (Nat.le_refl _)
        by_cases hsh2 : (r.drop c).length < 2 + N
        · have hS := hS3 hbig hsh2
          have hFe : (prefixE bs).q.e = 10 := by
            rw [HPE.out]
            show F.e = 10
            rw [HB.out (by rw [hS]; decide), hS]
            rfl
          have HP := Lib.hid (fun w' => @bad_post bs w w' 10 hFe (by decide))
          obtain ⟨z0, z1, z2, z3, z4⟩ := box_cells D0
          obtain ⟨y0, y1, y2, y3, y4⟩ := box_cells D1
          obtain ⟨f0, f1, f2, f3, f4⟩ := free_cells D0
          have hl1 := D0.lt
          have hl2 := D1.lt
          have hcmp2 : (bs.length : Int) - (a + 2) < N := by omega
          clear hXl hcut hXe hS2 hS3 hS4 hV hN hS hFe HGd HB hFj hmj O2 D0 D1 D2 hxl htl ha R2 hsh hdl hE4 hsh2
          go_wp2_with (go_at_call 49; refine (HV.out _).mono ?_; rintro e w' ⟨rfl, rfl⟩)
          refine bodyPost_ret (v := .tuple #[.agg #[.int .i64 0, .int .i64 0, .string ⟨#[]⟩, .slice none 0 0, .slice none 0 0], .int .i64 0, .int .i64 10]) (by simp [results, Try.results27, go_sem, *]) rfl (HP.out _ ?_)
          exact set5_below hb2 (Nat.le_refl _)
        have hS := hS4 hbig hsh2
        have hcut2 := R2.cut rfl (a + 2) (a + 2 + N) (by omega) (by omega)
        have hZe : (bs.take (a + 2 + N)).drop (a + 2) = ((r.drop c).drop 2).take N := by
          rw [List.drop_take, ha, show c + 2 + 2 = (c + 2) + 2 by omega, HDR.out, List.drop_drop]; congr 1; omega
        rw [hZe] at hcut2
        have hZl : (((r.drop c).drop 2).take N).length = N := by rw [List.length_take, List.length_drop]; omega
        obtain ⟨X, hX⟩ : ∃ X, X = ((r.drop c).drop 2).take N := ⟨_, rfl⟩
        rw [← hX] at hcut2 hZl hS
        have hg0 := HGd.out (by rw [hS])
        rw [hS] at hg0
        have HG2 := Lib.hid hg0
        have hcmp2 : ¬ (bs.length : Int) - (a + 2) < N := by omega
        have hcD : c + (2 + N) ≤ r.length := by omega
        have hup : a + 2 + N ≤ cap := by omega
        have hXe2 : a + 2 = cap → X = [] := fun h => List.length_eq_zero_iff.1 (by omega)
        have hN0 : a + 2 = cap → N = 0 := fun h => by omega
        have hstr : ∀ cc, (convert 33 9 (.slice (some ⟨b, off + (a + 2), none⟩) N cc)).run Try.prog wr = .ok (.string (strOf X)) wr := fun cc => run_bytes_str_n (P := Try.prog) wr 33 9 5 cc N hZl Try.underlying33 Try.underlying5 Try.underlying9 hcut2
        have hstr0 : ∀ cc, (convert 33 9 (.slice (some ⟨b, off, none⟩) 0 cc)).run Try.prog wr = .ok (.string (strOf [])) wr := fun cc => run_bytes_str_n (P := Try.prog) wr 33 9 5 cc 0 rfl Try.underlying33 Try.underlying5 Try.underlying9 (RB.empty wr B _)
        clear hXl hcut hXe hS2 hS3 hS4 hV hN hS HGd HB hFj hmj hcut2 hZe hZl hX hg0 hsh hdl hE4 hsh2
        have n0 := own_blk_ne O2.2 D0 (by decide)
        have n1 := own_blk_ne O2.2 D1 (by decide)
        have n2 := own_blk_ne O2.2 D2 (by decide)
        have hby : (ts.length + 1) * 16 ≤ 140737488355328 := by have := Hht.out; omega
        have Hlo := Lib.hid hlo
        clear hxl htl ha hlo
        by_cases hcp : a + 2 = cap
        · obtain rfl := hXe2 hcp
          obtain rfl := hN0 hcp
          clear hstr hXe2 hN0
          subst hcp
          go_wp2_with (first | (go_at_call 49; refine (HV.out _).mono ?_; rintro e w' ⟨rfl, rfl⟩) | (at_builtin; go_loud (refine wpList_append_elem (f := svl) _ rfl (.tmp 128) (.tmp 130) 24 (by rfl) w.heap.size 9 i0 _ 16 Try.underlying24 hi hz0 hz1 hz2 rfl (.slice A2 ts.length c2) ts (by rfl) O2 (strOf []) (svl_ok _) (by rfl) hby (by omega) hs2 ?_); intro u5 w5 O5 hg5 hat5; have E25 := Blk.grown D2 hg5 (Ne.symm n2); obtain ⟨x0, x1, x2, x3, x4⟩ := box_cells E25; have f4 := E25.frozen 4; obtain ⟨A5, c5, rfl, -, -, -, -⟩ := O5.form))
          have E05 := Blk.grown D0 hg5 (Ne.symm n0)
          have E15 := Blk.grown D1 hg5 (Ne.symm n1)
          have R5 : RB w5 B (some ⟨b, off, none⟩) bs := R2.grown hg5 (by omega) (fun g e => by have := (Hlo.out g e).1; omega)
          have hb5 : Below w.heap.size w w5 := hb2.grown hg5 (by omega) (fun k hk => (Hlo.out k hk).1)
          have hl5 : (ts ++ [strOf []]).length = ts.length + 1 := by simp
          rw [hl5] at O5
          clear hl5
          have n5 := own_blk_ne O5.2 E25 (by decide)
          have hG5 := E25.lt
          go_wp2
          go_roundw
          case rel =>
            refine ⟨j + 1, c + (2 + 0), a + 2 + 0, xs ++ [0], ts ++ [strOf []], .slice A5 (ts.length + 1) c5, by omega, by go_num, by omega, by go_num, hcD, HG2.out, by rw [List.length_append, Hhx.out]; rfl, by rw [List.length_append, Hht.out]; rfl, R5.setCell (by have := HSO.out; show B ≤ wo.heap.size; omega) _, E05.far (by show w.heap.size ≠ wo.heap.size; omega) _, E15.far (by show w.heap.size + 1 ≠ wo.heap.size; omega) _, ?_, ?_, hb5.setCell (by show w.heap.size ≤ wo.heap.size; omega) _⟩
            · have := E25.set_ 4 (.slice A5 (ts.length + 1) c5)
              simpa using this
            · exact O5.keep fun k hk => Below.heap_setCell _ _ _ _ (fun e => n5 (by have e' : k = wo.heap.size := e; rw [← e']; exact hk))
          case measure => simp [intOf]; omega
        · clear hstr0 hXe2 hN0
          go_wp2_with (first | (go_at_call 49; refine (HV.out _).mono ?_; rintro e w' ⟨rfl, rfl⟩) | (at_builtin; go_loud (refine wpList_append_elem (f := svl) _ rfl (.tmp 128) (.tmp 130) 24 (by rfl) w.heap.size 9 i0 _ 16 Try.underlying24 hi hz0 hz1 hz2 rfl (.slice A2 ts.length c2) ts (by rfl) O2 (strOf X) (svl_ok _) (by rfl) hby (by omega) hs2 ?_); intro u5 w5 O5 hg5 hat5; have E25 := Blk.grown D2 hg5 (Ne.symm n2); obtain ⟨x0, x1, x2, x3, x4⟩ := box_cells E25; have f4 := E25.frozen 4; obtain ⟨A5, c5, rfl, -, -, -, -⟩ := O5.form))
          have E05 := Blk.grown D0 hg5 (Ne.symm n0)
          have E15 := Blk.grown D1 hg5 (Ne.symm n1)
          have R5 : RB w5 B (some ⟨b, off, none⟩) bs := R2.grown hg5 (by omega) (fun g e => by have := (Hlo.out g e).1; omega)
          have hb5 : Below w.heap.size w w5 := hb2.grown hg5 (by omega) (fun k hk => (Hlo.out k hk).1)
          have hl5 : (ts ++ [strOf X]).length = ts.length + 1 := by simp
          rw [hl5] at O5
          clear hl5
          have n5 := own_blk_ne O5.2 E25 (by decide)
          have hG5 := E25.lt
          go_wp2
          go_roundw
          case rel =>
            refine ⟨j + 1, c + (2 + N), a + 2 + N, xs ++ [0], ts ++ [strOf X], .slice A5 (ts.length + 1) c5, by omega, by go_num, by omega, by go_num, hcD, HG2.out, by rw [List.length_append, Hhx.out]; rfl, by rw [List.length_append, Hht.out]; rfl, R5.setCell (by have := HSO.out; show B ≤ wo.heap.size; omega) _, E05.far (by show w.heap.size ≠ wo.heap.size; omega) _, E15.far (by show w.heap.size + 1 ≠ wo.heap.size; omega) _, ?_, ?_, hb5.setCell (by show w.heap.size ≤ wo.heap.size; omega) _⟩
            · have := E25.set_ 4 (.slice A5 (ts.length + 1) c5)
              simpa using this
            · exact O5.keep fun k hk => Below.heap_setCell _ _ _ _ (fun e => n5 (by have e' : k = wo.heap.size := e; rw [← e']; exact hk))
          case measure => simp [intOf]; omega
    · obtain rfl : j = m := by omega
      rw [Nat.sub_self] at hFj
      have hF2 : F = ⟨xs, ts, c, 0⟩ := by rw [hFj]; simp [elems, El.pre]
      obtain ⟨A2, c2, rfl, -, -, -, -⟩ := O2.form
      obtain ⟨p1, p2, p3⟩ := pref_good kn rfl HPE.out hF2
      rw [HMK.out] at p1
      have m0 := own_blk_ne O2.2 D0 (by decide)
      have hp2 : prefN bs = a := by rw [p2]; omega
      have HP := Lib.hid (fun w' h4 h5 h6 => @good_post bs w w' _ a none A2 0 c2 p1 hp2 p3 h4 h5 h6)
      have HO := Lib.hid O2
      obtain ⟨x0, x1, x2, x3, x4⟩ := box_cells D2
      obtain ⟨z0, z1, z2, z3, z4⟩ := box_cells D0
      obtain ⟨f0, f1, f2, f3, f4⟩ := free_cells D0
      have hl1 := D0.lt
      have hl2 := D2.lt
      clear hFj hF2 D0 D1 D2 O2 hxl htl p1 p2 p3 hp2 ha R2
      go_wp2
      refine bodyPost_ret (v := .tuple #[.agg #[.int .i64 (kn : Int), .int .i64 0, .string ⟨#[]⟩, .slice none 0 0, .slice A2 ts.length c2], .int .i64 (a : Nat), .int .i64 0]) (by simp [results, Try.results27, go_sem, *]) rfl ?_
      exact HP.out _ (OL.nil _ _ _ _) (OL.set5 HO.out m0 _ _ _ _ _) (set5_below hb2 (Nat.le_refl _))

end Go.Proofs.Ytcopofdoelcgcaa
