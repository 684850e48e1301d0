/- The document's Prefix: a number of eight bytes. -/
import Derived.Test.YtcopofdoelcgcaaValRP2
import Derived.IntWalk
namespace Go.Proofs.Ytcopofdoelcgcaa
open Go.RowKit
set_option linter.unusedVariables false

set_option maxRecDepth 100000 in
set_option maxHeartbeats 2000000 in
theorem rprefD (b off : Nat) (cap B : Nat) (bs : List Nat) (w : World) (h : RB w B (some ⟨b, off, none⟩) bs) (hB : B ≤ w.heap.size) (hc : bs.length ≤ cap) (hm : cap ≤ maxLen)
    (kn : Nat) (r : List Nat) (hbs : bs = kn :: r) (hk1 : 2 ≤ kn) (hk2 : kn ≤ 3)  :
    Calls Try.prog 27 #[.slice (some ⟨b, off, none⟩) bs.length cap] w (PrefPost bs w) := by
  obtain ⟨i0, hi, hz0, hz1, hz2⟩ := info_parts i64_info
  unfold maxLen at hm
  have hPE : prefixE bs = ⟨kn, 1, elems ((kn : Int)) 1 r⟩ := by rw [hbs]; exact prefix_one ⟨by omega, by omega⟩ (by omega)
  have hlen : bs.length = r.length + 1 := by rw [hbs]; rfl
  have hn0 : nth bs 0 = kn := by rw [hbs]; rfl
  have hdr : ∀ c, bs.drop (c + 1) = r.drop c := fun c => by rw [hbs]; rfl
  obtain ⟨wo, hwo, B0, B1, hb0, hso⟩ := two_blocks w
  have Ro := h.below' hb0 hB
  have c0 := Ro.get (k := 0) (by omega)
  rw [hn0, Nat.add_zero] at c0
  have hwk : IntKind.i64.wrap (kn : Int) = (kn : Int) := by rw [IntKind.wrap_i64]; omega
  have l0 : ((bs.length : Int) == 0) = false := by rw [beq_eq_false_iff_ne]; omega
  obtain ⟨w1, hw1⟩ : ∃ x, x = wo.alloc (.cells #[.int .i64 (kn : Int), .int .i64 0, .string ⟨#[]⟩, .slice none 0 0, .slice none 0 0] 26) := ⟨_, rfl⟩
  obtain ⟨C0, C1, C2, hb1, R1⟩ := three_blocks hw1 B0 B1 hb0 hso hB Ro
  skip
  have HMK : Hid (∀ xs ts, mkV kn xs ts = ⟨kn, xs.headD 0, .empty, [], []⟩) := Lib.hid fun xs ts => by unfold mkV; rw [if_pos (by omega), if_neg (by omega), if_neg (by omega), if_neg (by omega)]
  have HNORM := Lib.hid (elems_norm ((kn : Int)) 1 r).symm
  obtain ⟨F, hF⟩ : ∃ F, F = elems ((kn : Int)) 1 r := ⟨_, rfl⟩
  rw [← hF] at HNORM hPE
  have HPE := Lib.hid hPE
  have HF := Lib.hid hF
  have HW := Lib.hid hwo
  have HW1 := Lib.hid hw1
  have HLEN := Lib.hid hlen
  have HDR := Lib.hid hdr
  have HSO := Lib.hid hso
  have hGl : w.heap.size + 1 < wo.heap.size := by omega
  have hrl : r.length + 1 ≤ 9223372036854775807 := by omega
  have hll : r.length + 1 ≤ bs.length := by omega
  have hll2 : bs.length ≤ r.length + 1 := by omega
  obtain ⟨x0, x1, x2, x3, x4⟩ := box_cells C2
  clear hwo hw1 hlen hdr hso hF hPE hbs h hn0 hb0 Ro B0 B1 
  have q1 : decide ((kn : Int) < 1) = false := decide_eq_false (by omega)
  have q2 : decide (8 < (kn : Int)) = false := decide_eq_false (by omega)
  have q3 : decide (4 < (kn : Int)) = false := decide_eq_false (by omega)
  go_enter Try.func27, Try.ntmps27
  go_upto_region 4 with fail
  rw [← HW.out]
  go_upto_region 5 with fail
  rw [← HW1.out]
  go_wp2_with fail
  go_quiet (fail)
  go_wp2_with fail
  skip
  go_loopw [10, 7] (fun i t wr => ∃ (j c a : Nat) (xs : List Int) (ts : List ByteArray) (u : Value), j ≤ 1 ∧ i = .int .i64 j ∧ a = c + 1 ∧ t = .int .i64 a ∧ c ≤ r.length ∧ F = (elems ((kn : Int)) (1 - j) (r.drop c)).pre xs ts c ∧ xs.length = j ∧ ts.length = j ∧ RB wr B (some ⟨b, off, none⟩) bs ∧
      Blk wr w.heap.size 26 #[.int .i64 0, .int .i64 0, .string ⟨#[]⟩, .slice none 0 0, .slice none 0 0] ∧ Blk wr (w.heap.size + 1) 26 #[.int .i64 0, .int .i64 0, .string ⟨#[]⟩, .slice none 0 0, .slice none 0 0] ∧ Blk wr wo.heap.size 26 #[.int .i64 (kn : Int), .int .i64 (xs.headD 0), .string ⟨#[]⟩, .slice none 0 0, .slice none 0 0] ∧
      True ∧ Below w.heap.size w wr) (fun i _ _ => 1 - (intOf i).toNat)
  case atStart =>
    refine ⟨0, 0, 1, [], [], .slice none 0 0, Nat.zero_le _, rfl, rfl, rfl, Nat.zero_le _, (by rw [Nat.sub_zero, List.drop_zero, ← HF.out]; exact HNORM.out), rfl, rfl, R1.drewN _, C0.drewN _, C1.drewN _, C2.drewN _, trivial, below_drewN hb1 _⟩
  case round =>
    clear R1 C0 C1 C2 hb1 x0 x1 x2 x3 x4
    obtain ⟨j, c, a, xs, ts, u, hj, rfl, ha, rfl, hcl, hFj, hxl, htl, R2, D0, D1, D2, O2, hb2⟩ := hrel
    have hs2 := hb2.size
    by_cases hlt : j < 1
    · obtain ⟨mj, hmj⟩ : ∃ mj, 1 - j = mj + 1 := ⟨1 - j - 1, by omega⟩
      rw [hmj] at hFj
      have hdl : (r.drop c).length = r.length - c := List.length_drop
      have HB := Lib.hid (fun h => hFj.trans (congrArg (El.pre xs ts c) (elems_bad (m := mj) (e := ((kn : Int))) (bs := r.drop c) h)))
      have HGd : Hid ((scalar ((kn : Int)) (r.drop c)).e = 0 → F = (elems ((kn : Int)) (1 - (j + 1)) (r.drop (c + (scalar ((kn : Int)) (r.drop c)).c))).pre (xs ++ [(scalar ((kn : Int)) (r.drop c)).x]) (ts ++ [(scalar ((kn : Int)) (r.drop c)).t]) (c + (scalar ((kn : Int)) (r.drop c)).c)) := Lib.hid fun h => by
        rw [hFj, elems_good h, pre_pre, List.drop_drop, show 1 - (j + 1) = mj by omega]
      have hu := O2
      have Hhx := Lib.hid hxl
      have Hht := Lib.hid htl
      have Ha := Lib.hid ha
      have hal : a ≤ bs.length := by omega
      have hac : a ≤ c + 1 := by omega
      have hca : c + 1 ≤ a := by omega
      have hbD : (nwid ((kn : Int))).toNat = 8 := by unfold nwid; rw [if_neg (by omega)]; rfl
      by_cases hsh : (r.drop c).length < 8
      · have hS := scalar_n1 (e := ((kn : Int))) (bs := r.drop c) (by omega) (by rw [hbD]; exact hsh)
        have hF10 : (prefixE bs).q.e = 10 := by
          rw [HPE.out]
          show F.e = 10
          rw [HB.out (by rw [hS]; decide), hS]
          rfl
        have HP := Lib.hid (fun w' => @bad_post bs w w' 10 hF10 (by decide))
        obtain ⟨x0, x1, x2, x3, x4⟩ := box_cells D2
        obtain ⟨z0, z1, z2, z3, z4⟩ := box_cells D0
        obtain ⟨y0, y1, y2, y3, y4⟩ := box_cells D1
        obtain ⟨f0, f1, f2, f3, f4⟩ := free_cells D0
        have hl1 := D0.lt
        have hl2 := D1.lt
        have hcmp : (bs.length : Int) - a < 8 := by omega
        clear hS hF10 HB HGd hFj hmj O2 D0 D1 D2 hxl htl ha R2 hdl hsh hbD
        go_wp2
        refine bodyPost_ret (v := .tuple #[.agg #[.int .i64 0, .int .i64 0, .string ⟨#[]⟩, .slice none 0 0, .slice none 0 0], .int .i64 0, .int .i64 10]) (by simp [results, Try.results27, go_sem, *]) rfl (HP.out _ ?_)
        exact set5_below hb2 (Nat.le_refl _)
      · have hS := scalar_n2 (e := ((kn : Int))) (bs := r.drop c) (by omega) (by rw [hbD]; exact hsh)
        rw [hbD] at hS
        have hXl : ((r.drop c).take 8).length = 8 := by rw [List.length_take]; omega
        have hcut := R2.cut rfl a (a + 8) (by omega) (by omega)
        have hXe : (bs.take (a + 8)).drop a = (r.drop c).take 8 := by rw [List.drop_take, ha, HDR.out]; congr 1; omega
        rw [hXe] at hcut
        obtain ⟨X, hX⟩ : ∃ X, X = (r.drop c).take 8 := ⟨_, rfl⟩
        rw [← hX] at hcut hXl hS
        have hN64 := be_lt8 hcut.1 (by omega)
        have hV : ∀ cc, Calls Try.prog 49 #[.slice (some ⟨b, off + a, none⟩) 8 cc] wr fun e w' => e = .returned (.int .u64 (be X : Nat)) ∧ wr = w' := fun cc => by
          have := Val_any (some ⟨b, off + a, none⟩) cc B X wr hcut (by omega)
          rwa [hXl] at this
        have HV := Lib.hid hV
        obtain ⟨N, hN⟩ : ∃ N, N = be X := ⟨_, rfl⟩
        rw [← hN] at HV hN64 hS
        have hwN := wrap_toI hN64
        have hYr := toI_range hN64
        obtain ⟨Y, hY⟩ : ∃ Y, Y = toI N := ⟨_, rfl⟩
        have hNW := fun w => numWrong_any ((kn : Int)) Y w (by omega) (by omega)
        rw [← hY] at hwN
        have hcmp : ¬ (bs.length : Int) - a < 8 := by omega
        have hcap : a + 8 ≤ cap := by omega
        have hS0 : numW ((kn : Int)) Y = 0 → scalar ((kn : Int)) (r.drop c) = ⟨Y, .empty, 8, 0⟩ := fun h => by rw [hS, hY]; exact scNum_ok (by rw [← hY]; exact h)
        have hS1 : numW ((kn : Int)) Y ≠ 0 → scalar ((kn : Int)) (r.drop c) = ⟨0, .empty, 0, numW ((kn : Int)) Y⟩ := fun h => by rw [hS, hY]; exact scNum_no (by rw [← hY]; exact h)
        have HNW := Lib.hid hNW
        have HS0 := Lib.hid hS0
        have HS1 := Lib.hid hS1
        have hcD : c + 8 ≤ r.length := by omega
        have hY1 := hYr.1
        have hY2 := hYr.2
        clear hS hX hXl hcut hXe hV hN hN64 hY hYr hNW hS0 hS1 hsh hdl hbD
        obtain ⟨E, hE⟩ : ∃ E, E = numW ((kn : Int)) Y := ⟨_, rfl⟩
        rw [← hE] at HNW HS0 HS1
        obtain ⟨x0, x1, x2, x3, x4⟩ := box_cells D2
        by_cases h0 : E = 0
        · subst h0
          have HSe := Lib.hid (HS0.out rfl)
          have hg0 := HGd.out (by rw [HSe.out])
          rw [HSe.out] at hg0
          have HG2 := Lib.hid hg0
          clear hE hg0 HGd HB HS0 HS1 hFj hmj
          obtain rfl : j = 0 := by omega
          have fx := D2.frozen 1
          have hx0 : xs = [] := List.length_eq_zero_iff.1 Hhx.out
          have hwo1 : w.heap.size + 1 < wo.heap.size := hGl
          clear hxl htl ha
          go_wp2_with (first | (go_at_call 49; refine (HV.out _).mono ?_; rintro e w' ⟨rfl, rfl⟩) | (go_at_call 32; refine (HNW.out _).mono ?_; rintro e w' ⟨rfl, rfl⟩))
          go_roundw
          case rel =>
            refine ⟨1, c + 8, a + 8, xs ++ [Y], ts ++ [.empty], u, by omega, by go_num, by omega, by go_num, hcD, HG2.out, by rw [List.length_append, Hhx.out]; rfl, by rw [List.length_append, Hht.out]; rfl, R2.setCell (by have := HSO.out; show B ≤ wo.heap.size; omega) _, D0.far (by show w.heap.size ≠ wo.heap.size; omega) _, D1.far (by show w.heap.size + 1 ≠ wo.heap.size; omega) _, ?_, trivial, hb2.setCell (by show w.heap.size ≤ wo.heap.size; omega) _⟩
            have := D2.set_ 1 (.int .i64 Y)
            rw [hx0]
            simpa using this
          case measure => simp [intOf]
        · have HSe := Lib.hid (HS1.out h0)
          have hFe : (prefixE bs).q.e = E := by
            rw [HPE.out]
            show F.e = E
            rw [HB.out (by rw [HSe.out]; exact h0), HSe.out]
            unfold El.pre El.no
            rw [if_pos h0]
          have hne : (E != 0) = true := by simpa using h0
          have HP := Lib.hid (fun w' => @bad_post bs w w' E hFe h0)
          obtain ⟨z0, z1, z2, z3, z4⟩ := box_cells D0
          obtain ⟨y0, y1, y2, y3, y4⟩ := box_cells D1
          obtain ⟨f0, f1, f2, f3, f4⟩ := free_cells D0
          have hl1 := D0.lt
          have hl2 := D1.lt
          clear hE hFe HSe h0 HGd HB HS0 HS1 hFj hmj O2 D0 D1 D2 hxl htl ha R2
          go_wp2_with (first | (go_at_call 49; refine (HV.out _).mono ?_; rintro e w' ⟨rfl, rfl⟩) | (go_at_call 32; refine (HNW.out _).mono ?_; rintro e w' ⟨rfl, rfl⟩))
          refine bodyPost_ret (v := .tuple #[.agg #[.int .i64 0, .int .i64 0, .string ⟨#[]⟩, .slice none 0 0, .slice none 0 0], .int .i64 0, .int .i64 E]) (by simp [results, Try.results27, go_sem, *]) rfl (HP.out _ ?_)
          exact set5_below hb2 (Nat.le_refl _)
    · obtain rfl : j = 1 := by omega
      rw [Nat.sub_self] at hFj
      have hF2 : F = ⟨xs, ts, c, 0⟩ := by rw [hFj]; simp [elems, El.pre]
      have hu := O2
      obtain ⟨p1, p2, p3⟩ := pref_good kn rfl HPE.out hF2
      rw [HMK.out] at p1
      have m0 := trivial
      have hp2 : prefN bs = a := by rw [p2]; omega
      have HP := Lib.hid (fun w' h4 h5 h6 => @good_post bs w w' _ a none none 0 0 p1 hp2 p3 h4 h5 h6)
      have HO := Lib.hid O2
      obtain ⟨x0, x1, x2, x3, x4⟩ := box_cells D2
      obtain ⟨z0, z1, z2, z3, z4⟩ := box_cells D0
      obtain ⟨f0, f1, f2, f3, f4⟩ := free_cells D0
      have hl1 := D0.lt
      have hl2 := D2.lt
      clear hFj hF2 D0 D1 D2 O2 hxl htl p1 p2 p3 hp2 ha R2
      go_wp2
      refine bodyPost_ret (v := .tuple #[.agg #[.int .i64 (kn : Int), .int .i64 (xs.headD 0), .string ⟨#[]⟩, .slice none 0 0, .slice none 0 0], .int .i64 (a : Nat), .int .i64 0]) (by simp [results, Try.results27, go_sem, *]) rfl ?_
      exact HP.out _ (OL.nil _ _ _ _) (OL.nil _ _ _ _) (set5_below hb2 (Nat.le_refl _))

end Go.Proofs.Ytcopofdoelcgcaa
