/- The document's Joined with a slice of another's, and PutRel of version 2. Written by mkrdreft.py. -/
import Derived.Test.YtmiiogailnjfpaaRcRefA
import Derived.Test.YtmiiogailnjfpaaRdPureRelT
namespace Go.Proofs.Ytmiiogailnjfpaa
open Go.RowKit
set_option linter.unusedVariables false
section
variable {S : Fp} {l : List Ass} {w0 w w' : World}
set_option maxHeartbeats 1000000 in
theorem JoinedF_any [Stable (Sep l)] {v : Value} {bs news : List Nat} {A2 : Option Addr} {c2 B : Nat} (h : St Zf (ObA 5 v bs :: l) w0 w) (hr : RB w0 B A2 news) (hB : B ≤ w0.heap.size) (hl : bs.length + news.length ≤ 100000000) :
    Calls Try.prog 34 #[v, .slice A2 news.length c2] w fun e w' => ∃ v', e = .returned v' ∧ St Zf (ObA 5 v' (bs ++ news) :: l) w0 w' := by
  obtain ⟨i0, hi, hz0, hz1, hz2⟩ := info_parts u8_info
  have hby := hr.1
  have H := Lib.hid h
  obtain ⟨A0, c0, rfl, -, -, -, -⟩ := h.ob.form
  clear h
  go_enter Try.func34, Try.ntmps34
  go_wp2
  go_loopw [0, 5] (fun a i wr => ∃ k : Nat, k ≤ news.length ∧ i = .int .i64 k ∧ Hid (St Zf (ObA 5 a (bs ++ news.take k) :: l) w0 wr)) (fun _ i _ => news.length - (intOf i).toNat)
  case atStart => exact ⟨0, Nat.zero_le _, rfl, by simpa using H⟩
  case round =>
    obtain ⟨k, hk, rfl, Hk⟩ := hrel
    obtain ⟨Ak, ck, rfl, -, -, -, -⟩ := Hk.out.ob.form
    by_cases hlt : k < news.length
    · obtain ⟨b, off, rfl, hb, hc⟩ := (Hk.out.rb hr hB).at_ hlt
      have Hlen : Hid ((bs ++ news.take k).length + 1 ≤ 140737488355328) := Lib.hid (by rw [List.length_append, List.length_take]; omega)
      have Htk : Hid (bs ++ news.take k ++ [nth news k] = bs ++ news.take (k + 1)) := Lib.hid (by rw [take_succ_nth news k hlt, List.append_assoc])
      have Hby := Lib.hid (hby.nth k)
      go_wp2_with (at_builtin; refine wpList_append_lit8 _ rfl _ _ 24 rfl 0 5 i0 Try.underlying24 hi hz0 hz1 hz2 _ (bs ++ news.take k) (nth news k) (by rfl) Hk.out.ob (by rfl) _ rfl Hby.out Hlen.out (Nat.zero_le _) ?_; intro v1 w1 hown1 hg1 hat1; rw [Htk.out] at hown1; have H1 := Lib.hid (Hk.out.grewOb hown1 hg1 hat1 (by omega)); clear hown1 hg1 hat1)
      go_roundw
      case rel => exact ⟨k + 1, by omega, by go_num, H1⟩
      case measure => simp [intOf]; omega
    · have hk2 : k = news.length := by omega
      have H2 := Hk.out
      rw [List.take_of_length_le (by omega)] at H2
      clear Hk
      go_wp2
      go_ret
      have hm : min k news.length = news.length := by omega
      exact ⟨_, rfl, by simpa [hm] using H2⟩
end
set_option maxRecDepth 100000 in
set_option maxHeartbeats 4000000 in
theorem refPutRelT_any (x : RelC) (A : Option Addr) (cap B : Nat) (L : List Nat) (w : World) (hr : RB w B A L) (hB : B ≤ w.heap.size) : Calls Try.prog 22 #[.agg #[.bool x.lv, .int .i64 x.fr, .int .i64 x.to, .int .i64 x.fp, .int .i64 x.tp, .int .i64 x.fn, .int .i64 x.tn, .int .i64 x.ty, .int .i64 x.pr, .slice A L.length cap]] w (RefPut (relTok x L) (refRelB x ++ L) w) := by
  have h0 := (St.start Zf w).newBlk 45 #[.bool x.lv, .int .i64 x.fr, .int .i64 x.to, .int .i64 x.fp, .int .i64 x.tp, .int .i64 x.fn, .int .i64 x.tn, .int .i64 x.ty, .int .i64 x.pr, .slice A L.length cap]
  obtain ⟨wo, hwo⟩ : ∃ wo, wo = w.alloc (.cells #[.bool x.lv, .int .i64 x.fr, .int .i64 x.to, .int .i64 x.fp, .int .i64 x.tp, .int .i64 x.fn, .int .i64 x.tn, .int .i64 x.ty, .int .i64 x.pr, .slice A L.length cap] 45) := ⟨_, rfl⟩
  rw [← hwo] at h0
  have HF : Hid (∀ (l : List Ass) (W : World), St Zf (BlkA w.heap.size 45 #[.bool x.lv, .int .i64 x.fr, .int .i64 x.to, .int .i64 x.fp, .int .i64 x.tp, .int .i64 x.fn, .int .i64 x.tn, .int .i64 x.ty, .int .i64 x.pr, .slice A L.length cap] :: l) w W → W.cell? ⟨w.heap.size, 0, none⟩ = some (.bool x.lv) ∧ W.cell? ⟨w.heap.size, 1, none⟩ = some (.int .i64 x.fr) ∧ W.cell? ⟨w.heap.size, 2, none⟩ = some (.int .i64 x.to) ∧ W.cell? ⟨w.heap.size, 3, none⟩ = some (.int .i64 x.fp) ∧ W.cell? ⟨w.heap.size, 4, none⟩ = some (.int .i64 x.tp) ∧ W.cell? ⟨w.heap.size, 5, none⟩ = some (.int .i64 x.fn) ∧ W.cell? ⟨w.heap.size, 6, none⟩ = some (.int .i64 x.tn) ∧ W.cell? ⟨w.heap.size, 7, none⟩ = some (.int .i64 x.ty) ∧ W.cell? ⟨w.heap.size, 8, none⟩ = some (.int .i64 x.pr) ∧ W.cell? ⟨w.heap.size, 9, none⟩ = some (.slice A L.length cap)) := Lib.hid fun l W h => cellsrelT h
  have HL := Lib.hid (LinkRight_any x wo)
  have hlb := linkB_short x
  have hpb := ptrB_short x.pr
  unfold RefPut relTok refRelOk refRelB
  obtain ⟨b1, hb1⟩ : ∃ b, b = linkR x := ⟨_, rfl⟩
  obtain ⟨b2, hb2⟩ : ∃ b, b = inR 0 200 x.ty := ⟨_, rfl⟩
  obtain ⟨b3, hb3⟩ : ∃ b, b = inR (-1) 65536 x.pr := ⟨_, rfl⟩
  obtain ⟨b4, hb4⟩ : ∃ b, b = decide (L.length = 32) := ⟨_, rfl⟩
  have hlen : ((L.length : Int) != 32) = !b4 := by
    rw [hb4]
    by_cases h : L.length = 32
    · rw [decide_eq_true h, h]; rfl
    · rw [decide_eq_false h]; rw [bne_iff_ne.2 (by omega)]; rfl
  have h32 : b4 = true → L.length = 32 := fun h => by rw [hb4] at h; exact of_decide_eq_true h
  have H2 := fun w1 => Lib.hid (In_any x.ty 0 200 w1)
  have H3 := fun w1 => Lib.hid (In_any x.pr (-1) 65536 w1)
  rw [← hb1] at HL ⊢
  rw [← hb2] at H2 ⊢
  rw [← hb3] at H3 ⊢
  rw [← hb4]
  have Hq : Hid ((linkB x).length ≤ 100 ∧ (ptrB x.pr).length ≤ 8) := Lib.hid ⟨hlb, hpb⟩
  have Hj : Hid (L.length = 32 → ∀ (l : List Ass) (v : Value) (W : World), Stable (Sep l) → St Zf (ObA 5 v (linkB x ++ ptrB x.pr) :: l) w W → Calls Try.prog 34 #[v, .slice A L.length cap] W fun e w' => ∃ v', e = .returned v' ∧ St Zf (ObA 5 v' (linkB x ++ ptrB x.pr ++ L) :: l) w w') := Lib.hid fun h l v W hst hW => JoinedF_any hW hr hB (by rw [List.length_append]; omega)
  obtain ⟨c0, c1, c2, c3, c4, c5, c6, c7, c8, c9⟩ := HF.out _ _ h0
  have Hwo := Lib.hid hwo
  have H0 := Lib.hid h0
  clear hwo hb1 hb2 hb3 hb4 hlb hpb h0 hr
  cases b1
  · have e0 : ((false && b2 && b3 && b4) = true) = False := by simp
    simp only [e0, if_false]
    clear hlen h32
    go_enter Try.func22, Try.ntmps22
    go_upto_region 1 with fail
    rw [← Hwo.out]
    go_wp2_with (first | (go_at_call 44; refine (HL.out).mono ?_; rintro e w1 ⟨rfl, hbw⟩; obtain ⟨c0, c1, c2, c3, c4, c5, c6, c7, c8, c9⟩ := HF.out _ _ (H0.out.below hbw); have g1 := refPut_no (H0.out.below hbw).bel _ rfl))
    go_ret2
    exact ⟨_, rfl, g1⟩
  · cases b2
    · have e0 : ((true && false && b3 && b4) = true) = False := by simp
      simp only [e0, if_false]
      clear hlen h32
      go_enter Try.func22, Try.ntmps22
      go_upto_region 1 with fail
      rw [← Hwo.out]
      go_wp2_with (first | (go_at_call 44; refine (HL.out).mono ?_; rintro e w1 ⟨rfl, hbw⟩; obtain ⟨c0, c1, c2, c3, c4, c5, c6, c7, c8, c9⟩ := HF.out _ _ (H0.out.below hbw); have g1 := refPut_no (H0.out.below hbw).bel _ rfl) | (go_at_call 32; with_reducible refine ((H2 _).out).mono ?_; rintro e w' ⟨rfl, rfl⟩))
      go_ret2
      exact ⟨_, rfl, g1⟩
    · cases b3
      · have e0 : ((true && true && false && b4) = true) = False := by simp
        simp only [e0, if_false]
        clear hlen h32
        go_enter Try.func22, Try.ntmps22
        go_upto_region 1 with fail
        rw [← Hwo.out]
        go_wp2_with (first | (go_at_call 44; refine (HL.out).mono ?_; rintro e w1 ⟨rfl, hbw⟩; obtain ⟨c0, c1, c2, c3, c4, c5, c6, c7, c8, c9⟩ := HF.out _ _ (H0.out.below hbw); have g1 := refPut_no (H0.out.below hbw).bel _ rfl) | (go_at_call 32; with_reducible refine ((H2 _).out).mono ?_; rintro e w' ⟨rfl, rfl⟩) | (go_at_call 32; with_reducible refine ((H3 _).out).mono ?_; rintro e w' ⟨rfl, rfl⟩))
        go_ret2
        exact ⟨_, rfl, g1⟩
      · cases b4
        · have e0 : ((true && true && true && false) = true) = False := by simp
          simp only [e0, if_false]
          have hlen : ((L.length : Int) != 32) = true := hlen
          go_enter Try.func22, Try.ntmps22
          go_upto_region 1 with fail
          rw [← Hwo.out]
          go_wp2_with (first | (go_at_call 44; refine (HL.out).mono ?_; rintro e w1 ⟨rfl, hbw⟩; obtain ⟨c0, c1, c2, c3, c4, c5, c6, c7, c8, c9⟩ := HF.out _ _ (H0.out.below hbw); have g1 := refPut_no (H0.out.below hbw).bel _ rfl) | (go_at_call 32; with_reducible refine ((H2 _).out).mono ?_; rintro e w' ⟨rfl, rfl⟩) | (go_at_call 32; with_reducible refine ((H3 _).out).mono ?_; rintro e w' ⟨rfl, rfl⟩))
          go_ret2
          exact ⟨_, rfl, g1⟩
        · have e0 : ((true && true && true && true) = true) = True := by simp
          simp only [e0, if_true]
          have hlen : ((L.length : Int) != 32) = false := hlen
          have HJ := Lib.hid (Hj.out (h32 rfl))
          clear Hj h32
          go_enter Try.func22, Try.ntmps22
          go_upto_region 1 with fail
          rw [← Hwo.out]
          go_upto_region 3 with (first | (go_at_call 44; refine (HL.out).mono ?_; rintro e w1 ⟨rfl, hbw⟩; obtain ⟨c0, c1, c2, c3, c4, c5, c6, c7, c8, c9⟩ := HF.out _ _ (H0.out.below hbw); have g1 := Lib.hid (H0.out.below hbw); clear hbw) | (go_at_call 32; with_reducible refine ((H2 _).out).mono ?_; rintro e w' ⟨rfl, rfl⟩) | (go_at_call 32; with_reducible refine ((H3 _).out).mono ?_; rintro e w' ⟨rfl, rfl⟩))
          have g2 := g1.out.drew
          have HLB := Lib.hid (LinkBytes_any x w1.drew)
          clear hlen c9 c0 c1 c2 c3 c4 c5 c6 c7 c8
          obtain ⟨c0, c1, c2, c3, c4, c5, c6, c7, c8, -⟩ := HF.out _ _ g1.out
          go_region_held3 (fun w' => w'.cell? ⟨w.heap.size, 0, none⟩ = some (.bool x.lv) ∧ w'.cell? ⟨w.heap.size, 1, none⟩ = some (.int .i64 x.fr) ∧ w'.cell? ⟨w.heap.size, 2, none⟩ = some (.int .i64 x.to) ∧ w'.cell? ⟨w.heap.size, 3, none⟩ = some (.int .i64 x.fp) ∧ w'.cell? ⟨w.heap.size, 4, none⟩ = some (.int .i64 x.tp) ∧ w'.cell? ⟨w.heap.size, 5, none⟩ = some (.int .i64 x.fn) ∧ w'.cell? ⟨w.heap.size, 6, none⟩ = some (.int .i64 x.tn) ∧ w'.cell? ⟨w.heap.size, 7, none⟩ = some (.int .i64 x.ty) ∧ w'.cell? ⟨w.heap.size, 8, none⟩ = some (.int .i64 x.pr)) (go_keep)
            ((first
              | (go_at_call 45; refine (HLB.out).mono ?_; rintro e w2 ⟨v2, rfl, h2⟩; have h3 := g2.addSt h2; have k2 := HF.out _ _ h3.swap; obtain ⟨_, _, _, _, _, _, _, _, _, -⟩ := k2)
              | (go_at_call 35; refine (Ptr_any h3 x.pr).mono ?_; rintro e w4 ⟨v4, rfl, h4⟩; have k4 := HF.out _ _ h4.bring2; obtain ⟨_, _, _, _, _, _, _, _, _, -⟩ := k4)
              | (go_at_call 34; refine (Joined_any h4.swap (by have := Hq.out; omega)).mono ?_; rintro e w5 ⟨v5, rfl, h5⟩; have k5 := HF.out _ _ h5.bring2; obtain ⟨_, _, _, _, _, _, _, _, _, -⟩ := k5)))
          have H5 := Lib.hid h5
          have c9 := (HF.out _ _ h5.bring2).2.2.2.2.2.2.2.2.2
          clear h2 h3 h4 h5 g2
          go_wp2_with (go_at_call 34; refine (HJ.out _ _ _ inferInstance H5.out).mono ?_; rintro e w6 ⟨v6, rfl, h6⟩)
          go_ret2
          exact ⟨_, rfl, h6.own, h6.bel⟩
end Go.Proofs.Ytmiiogailnjfpaa
