/- The document's side of recone: In, Ptr, Joined, LinkRight, LinkBytes, PutRel. -/
import Derived.Test.YtpoaokkmmoeekaaRcRelF
import Derived.Test.YtpoaokkmmoeekaaRcNode2
import Derived.Test.YtpoaokkmmoeekaaRefSet
import Derived.Deep.RegionHeld3
namespace Go.Proofs.Ytpoaokkmmoeekaa
open Go.RowKit
set_option linter.unusedVariables false

set_option maxHeartbeats 400000 in
theorem In_any (n low most : Int) (w : World) : Calls Try.prog 28 #[.int .i64 n, .int .i64 low, .int .i64 most] w fun e w' => e = .returned (.bool (inR low most n)) ∧ w = w' := by
  unfold inR
  by_cases h1 : low ≤ n
  · by_cases h2 : n < most
    · rw [decide_eq_true h1, decide_eq_true h2]
      go_enter Try.func28, Try.ntmps28
      go_wp2
      go_ret
      exact ⟨rfl, rfl⟩
    · have hd : decide (n < most) = false := decide_eq_false h2
      rw [decide_eq_true h1, hd]
      go_enter Try.func28, Try.ntmps28
      go_wp2
      go_ret
      exact ⟨rfl, rfl⟩
  · have hd : decide (low ≤ n) = false := decide_eq_false h1
    rw [hd]
    go_enter Try.func28, Try.ntmps28
    go_wp2
    go_ret
    exact ⟨rfl, rfl⟩

section
variable {S : Fp} {l : List Ass} {w0 w w' : World}
theorem refNumA [Stable (Sep l)] (h : St S l w0 w) (width : Int) (n : Nat) (hn : n < 18446744073709551616) :
    Calls Try.prog 45 #[.int .i64 width, .int .u64 n] w fun e w' => ∃ v, e = .returned v ∧ St S (ObA 5 v (putNum width n) :: l) w0 w' := by
  refine (refNum_any width n w hn).mono ?_
  rintro e w' ⟨v, rfl, ho, hb⟩
  exact ⟨v, rfl, h.newOb ho hb⟩
/-- a pointer's bytes -/
def ptrB (n : Int) : List Nat := putNum 4 (uIn (wrap64 (n + 1)))
set_option maxHeartbeats 400000 in
theorem Ptr_any [Stable (Sep l)] (h : St S l w0 w) (n : Int) :
    Calls Try.prog 31 #[.int .i64 n] w fun e w' => ∃ v, e = .returned v ∧ St S (ObA 5 v (ptrB n) :: l) w0 w' := by
  have H := Lib.hid (refNumA h 4 (uIn (wrap64 (n + 1))) (uIn_lt _))
  have e1 := uIn_eq (wrap64 (n + 1))
  unfold ptrB
  obtain ⟨m, hm⟩ : ∃ m, m = uIn (wrap64 (n + 1)) := ⟨_, rfl⟩
  rw [← hm] at H e1 ⊢
  clear h hm
  go_enter Try.func31, Try.ntmps31
  go_wp2_with (go_at_call 45; refine (H.out).mono ?_; rintro e w1 ⟨v, rfl, h1⟩)
  go_ret
  exact ⟨v, rfl, h1⟩

set_option maxHeartbeats 1000000 in
theorem Joined_any [Stable (Sep l)] {v u : Value} {bs news : List Nat} (h : St S (ObA 5 v bs :: ObA 5 u news :: l) w0 w) (hl : bs.length + news.length ≤ 100000000) :
    Calls Try.prog 30 #[v, u] w fun e w' => ∃ v', e = .returned v' ∧ St S (ObA 5 v' (bs ++ news) :: ObA 5 u news :: l) w0 w' := by
  obtain ⟨i0, hi, hz0, hz1, hz2⟩ := info_parts u8_info
  obtain ⟨A2, c2, rfl, -, -, hr2, -⟩ := h.swap.ob.form
  have hby := hr2.1
  have H := Lib.hid h
  obtain ⟨A0, c0, rfl, -, -, -, -⟩ := h.ob.form
  clear h hr2
  go_enter Try.func30, Try.ntmps30
  go_wp2
  go_loopw [0, 5] (fun a i wr => ∃ k : Nat, k ≤ news.length ∧ i = .int .i64 k ∧ Hid (St S (ObA 5 a (bs ++ news.take k) :: ObA 5 (.slice A2 news.length c2) news :: l) w0 wr)) (fun _ i _ => news.length - (intOf i).toNat)
  case atStart => exact ⟨0, Nat.zero_le _, rfl, by simpa using H⟩
  case round =>
    obtain ⟨k, hk, rfl, Hk⟩ := hrel
    obtain ⟨Ak, ck, rfl, -, -, -, -⟩ := Hk.out.ob.form
    by_cases hlt : k < news.length
    · obtain ⟨b, off, rfl, hb, hc⟩ := (Hk.out.swap.ob.reads.2.1).at_ hlt
      have Hlen : Hid ((bs ++ news.take k).length + 1 ≤ 140737488355328) := Lib.hid (by rw [List.length_append, List.length_take]; omega)
      have Htk : Hid (bs ++ news.take k ++ [nth news k] = bs ++ news.take (k + 1)) := Lib.hid (by rw [take_succ_nth news k hlt, List.append_assoc])
      have Hby := Lib.hid (hby.nth k)
      go_wp2_with (at_builtin; refine wpList_append_lit8 _ rfl _ _ 26 rfl 0 5 i0 Try.underlying26 hi hz0 hz1 hz2 _ (bs ++ news.take k) (nth news k) (by rfl) Hk.out.ob (by rfl) _ rfl Hby.out Hlen.out (Nat.zero_le _) ?_; intro v1 w1 hown1 hg1 hat1; rw [Htk.out] at hown1; have H1 := Lib.hid (Hk.out.grewOb hown1 hg1 hat1 (by omega)); clear hown1 hg1 hat1)
      go_roundw
      case rel => exact ⟨k + 1, by omega, by go_num, H1⟩
      case measure => simp [intOf]; omega
    · have hk2 : k = news.length := by omega
      have H2 := Hk.out
      rw [List.take_of_length_le (by omega)] at H2
      clear Hk
      go_wp2
      go_ret
      have hm : min k news.length = news.length := by omega
      exact ⟨_, rfl, by simpa [hm] using H2⟩
end
end Go.Proofs.Ytpoaokkmmoeekaa

/- The document's side of recone: LinkRight, LinkBytes, PutRel. -/
namespace Go.Proofs.Ytpoaokkmmoeekaa
open Go.RowKit
set_option linter.unusedVariables false

def linkR (x : RelC) : Bool := inR 0 1024 x.fr && inR 0 1024 x.to && inR (-1) 2048 x.fp && inR (-1) 2048 x.fn && inR (-1) 2048 x.tp && inR (-1) 2048 x.tn

set_option maxHeartbeats 2000000 in
theorem LinkRight_any (x : RelC) (w : World) : Calls Try.prog 39 #[.agg #[.bool x.lv, .int .i64 x.fr, .int .i64 x.to, .int .i64 x.fp, .int .i64 x.tp, .int .i64 x.fn, .int .i64 x.tn]] w fun e w' => e = .returned (.bool (linkR x)) ∧ Below w.heap.size w w' := by
  unfold linkR
  obtain ⟨b0, hb0⟩ : ∃ b, b = inR 0 1024 x.fr := ⟨_, rfl⟩
  have H0 := fun w1 => Lib.hid (In_any x.fr 0 1024 w1)
  rw [← hb0] at H0 ⊢
  obtain ⟨b1, hb1⟩ : ∃ b, b = inR 0 1024 x.to := ⟨_, rfl⟩
  have H1 := fun w1 => Lib.hid (In_any x.to 0 1024 w1)
  rw [← hb1] at H1 ⊢
  obtain ⟨b2, hb2⟩ : ∃ b, b = inR (-1) 2048 x.fp := ⟨_, rfl⟩
  have H2 := fun w1 => Lib.hid (In_any x.fp (-1) 2048 w1)
  rw [← hb2] at H2 ⊢
  obtain ⟨b3, hb3⟩ : ∃ b, b = inR (-1) 2048 x.fn := ⟨_, rfl⟩
  have H3 := fun w1 => Lib.hid (In_any x.fn (-1) 2048 w1)
  rw [← hb3] at H3 ⊢
  obtain ⟨b4, hb4⟩ : ∃ b, b = inR (-1) 2048 x.tp := ⟨_, rfl⟩
  have H4 := fun w1 => Lib.hid (In_any x.tp (-1) 2048 w1)
  rw [← hb4] at H4 ⊢
  obtain ⟨b5, hb5⟩ : ∃ b, b = inR (-1) 2048 x.tn := ⟨_, rfl⟩
  have H5 := fun w1 => Lib.hid (In_any x.tn (-1) 2048 w1)
  rw [← hb5] at H5 ⊢
  clear hb0 hb1 hb2 hb3 hb4 hb5
  have HB := Lib.hid ((Below.refl w.heap.size w).alloc (Nat.le_refl _) (.cells #[.bool x.lv, .int .i64 x.fr, .int .i64 x.to, .int .i64 x.fp, .int .i64 x.tp, .int .i64 x.fn, .int .i64 x.tn] 42))
  cases b0
  · go_enter Try.func39, Try.ntmps39
    go_wp2_with (first | (go_at_call 28; with_reducible refine ((H0 _).out).mono ?_; rintro e w' ⟨rfl, rfl⟩))
    go_ret
    exact ⟨rfl, HB.out⟩
  · cases b1
    · go_enter Try.func39, Try.ntmps39
      go_wp2_with (first | (go_at_call 28; with_reducible refine ((H0 _).out).mono ?_; rintro e w' ⟨rfl, rfl⟩) | (go_at_call 28; with_reducible refine ((H1 _).out).mono ?_; rintro e w' ⟨rfl, rfl⟩))
      go_ret
      exact ⟨rfl, HB.out⟩
    · cases b2
      · go_enter Try.func39, Try.ntmps39
        go_wp2_with (first | (go_at_call 28; with_reducible refine ((H0 _).out).mono ?_; rintro e w' ⟨rfl, rfl⟩) | (go_at_call 28; with_reducible refine ((H1 _).out).mono ?_; rintro e w' ⟨rfl, rfl⟩) | (go_at_call 28; with_reducible refine ((H2 _).out).mono ?_; rintro e w' ⟨rfl, rfl⟩))
        go_ret
        exact ⟨rfl, HB.out⟩
      · cases b3
        · go_enter Try.func39, Try.ntmps39
          go_wp2_with (first | (go_at_call 28; with_reducible refine ((H0 _).out).mono ?_; rintro e w' ⟨rfl, rfl⟩) | (go_at_call 28; with_reducible refine ((H1 _).out).mono ?_; rintro e w' ⟨rfl, rfl⟩) | (go_at_call 28; with_reducible refine ((H2 _).out).mono ?_; rintro e w' ⟨rfl, rfl⟩) | (go_at_call 28; with_reducible refine ((H3 _).out).mono ?_; rintro e w' ⟨rfl, rfl⟩))
          go_ret
          exact ⟨rfl, HB.out⟩
        · cases b4
          · go_enter Try.func39, Try.ntmps39
            go_wp2_with (first | (go_at_call 28; with_reducible refine ((H0 _).out).mono ?_; rintro e w' ⟨rfl, rfl⟩) | (go_at_call 28; with_reducible refine ((H1 _).out).mono ?_; rintro e w' ⟨rfl, rfl⟩) | (go_at_call 28; with_reducible refine ((H2 _).out).mono ?_; rintro e w' ⟨rfl, rfl⟩) | (go_at_call 28; with_reducible refine ((H3 _).out).mono ?_; rintro e w' ⟨rfl, rfl⟩) | (go_at_call 28; with_reducible refine ((H4 _).out).mono ?_; rintro e w' ⟨rfl, rfl⟩))
            go_ret
            exact ⟨rfl, HB.out⟩
          · cases b5
            · go_enter Try.func39, Try.ntmps39
              go_wp2_with (first | (go_at_call 28; with_reducible refine ((H0 _).out).mono ?_; rintro e w' ⟨rfl, rfl⟩) | (go_at_call 28; with_reducible refine ((H1 _).out).mono ?_; rintro e w' ⟨rfl, rfl⟩) | (go_at_call 28; with_reducible refine ((H2 _).out).mono ?_; rintro e w' ⟨rfl, rfl⟩) | (go_at_call 28; with_reducible refine ((H3 _).out).mono ?_; rintro e w' ⟨rfl, rfl⟩) | (go_at_call 28; with_reducible refine ((H4 _).out).mono ?_; rintro e w' ⟨rfl, rfl⟩) | (go_at_call 28; with_reducible refine ((H5 _).out).mono ?_; rintro e w' ⟨rfl, rfl⟩))
              go_ret
              exact ⟨rfl, HB.out⟩
            · go_enter Try.func39, Try.ntmps39
              go_wp2_with (first | (go_at_call 28; with_reducible refine ((H0 _).out).mono ?_; rintro e w' ⟨rfl, rfl⟩) | (go_at_call 28; with_reducible refine ((H1 _).out).mono ?_; rintro e w' ⟨rfl, rfl⟩) | (go_at_call 28; with_reducible refine ((H2 _).out).mono ?_; rintro e w' ⟨rfl, rfl⟩) | (go_at_call 28; with_reducible refine ((H3 _).out).mono ?_; rintro e w' ⟨rfl, rfl⟩) | (go_at_call 28; with_reducible refine ((H4 _).out).mono ?_; rintro e w' ⟨rfl, rfl⟩) | (go_at_call 28; with_reducible refine ((H5 _).out).mono ?_; rintro e w' ⟨rfl, rfl⟩))
              go_ret
              exact ⟨rfl, HB.out⟩

/-- a link's bytes -/
def linkB (x : RelC) : List Nat := putNum 4 (uIn x.fr) ++ putNum 4 (uIn x.to) ++ putNum 2 (uIn x.ty) ++ ptrB x.fp ++ ptrB x.fn ++ ptrB x.tp ++ ptrB x.tn
theorem putNum_short (d : Int) (n : Nat) : (putNum d n).length ≤ 8 := putNum_len d n
theorem ptrB_short (n : Int) : (ptrB n).length ≤ 8 := putNum_len _ _

set_option maxRecDepth 100000 in
set_option maxHeartbeats 4000000 in
theorem LinkBytes_any (x : RelC) (w : World) : Calls Try.prog 40 #[.agg #[.bool x.lv, .int .i64 x.fr, .int .i64 x.to, .int .i64 x.fp, .int .i64 x.tp, .int .i64 x.fn, .int .i64 x.tn], .int .i64 x.ty] w fun e w' => ∃ v, e = .returned v ∧ St Zf [ObA 5 v (linkB x)] w w' := by
  have h0 := (St.start Zf w).newBlk 42 #[.bool x.lv, .int .i64 x.fr, .int .i64 x.to, .int .i64 x.fp, .int .i64 x.tp, .int .i64 x.fn, .int .i64 x.tn]
  obtain ⟨wo, hwo⟩ : ∃ wo, wo = w.alloc (.cells #[.bool x.lv, .int .i64 x.fr, .int .i64 x.to, .int .i64 x.fp, .int .i64 x.tp, .int .i64 x.fn, .int .i64 x.tn] 42) := ⟨_, rfl⟩
  rw [← hwo] at h0
  have q0 := putNum_short 4 (uIn x.fr)
  have q1 := putNum_short 4 (uIn x.to)
  have q2 := putNum_short 2 (uIn x.ty)
  have q3 := ptrB_short x.fp
  have q4 := ptrB_short x.fn
  have q5 := ptrB_short x.tp
  have q6 := ptrB_short x.tn
  unfold linkB
  have e1 := uIn_eq x.fr
  have e2 := uIn_eq x.to
  have e3 := uIn_eq x.ty
  have m1 := uIn_lt x.fr
  have m2 := uIn_lt x.to
  have m3 := uIn_lt x.ty
  obtain ⟨y1, hy1⟩ : ∃ y, y = uIn x.fr := ⟨_, rfl⟩
  obtain ⟨y2, hy2⟩ : ∃ y, y = uIn x.to := ⟨_, rfl⟩
  obtain ⟨y3, hy3⟩ : ∃ y, y = uIn x.ty := ⟨_, rfl⟩
  rw [← hy1] at q0 e1 m1 ⊢
  rw [← hy2] at q1 e2 m2 ⊢
  rw [← hy3] at q2 e3 m3 ⊢
  have M1 := Lib.hid m1
  have M2 := Lib.hid m2
  have M3 := Lib.hid m3
  have hb0 : St Zf [BlkA w.heap.size 42 #[.bool x.lv, .int .i64 x.fr, .int .i64 x.to, .int .i64 x.fp, .int .i64 x.tp, .int .i64 x.fn, .int .i64 x.tn]] w wo.drew := h0.drew
  have HF : Hid (∀ (l : List Ass) (W : World), St Zf (BlkA w.heap.size 42 #[.bool x.lv, .int .i64 x.fr, .int .i64 x.to, .int .i64 x.fp, .int .i64 x.tp, .int .i64 x.fn, .int .i64 x.tn] :: l) w W → W.cell? ⟨w.heap.size, 1, none⟩ = some (.int .i64 x.fr) ∧ W.cell? ⟨w.heap.size, 2, none⟩ = some (.int .i64 x.to) ∧ W.cell? ⟨w.heap.size, 3, none⟩ = some (.int .i64 x.fp) ∧ W.cell? ⟨w.heap.size, 4, none⟩ = some (.int .i64 x.tp) ∧ W.cell? ⟨w.heap.size, 5, none⟩ = some (.int .i64 x.fn) ∧ W.cell? ⟨w.heap.size, 6, none⟩ = some (.int .i64 x.tn)) := Lib.hid fun l W h => by
    have hb := h.blk
    exact ⟨by rw [hb.cell 1]; rfl, by rw [hb.cell 2]; rfl, by rw [hb.cell 3]; rfl, by rw [hb.cell 4]; rfl, by rw [hb.cell 5]; rfl, by rw [hb.cell 6]; rfl⟩
  have Hq : Hid ((putNum 4 y1).length ≤ 8 ∧ (putNum 4 y2).length ≤ 8 ∧ (putNum 2 y3).length ≤ 8 ∧ (ptrB x.fp).length ≤ 8 ∧ (ptrB x.fn).length ≤ 8 ∧ (ptrB x.tp).length ≤ 8 ∧ (ptrB x.tn).length ≤ 8) := Lib.hid ⟨q0, q1, q2, q3, q4, q5, q6⟩
  obtain ⟨c1, c2, -⟩ := HF.out _ _ h0
  have Hwo := Lib.hid hwo
  clear hwo h0 q0 q1 q2 q3 q4 q5 q6 m1 m2 m3 hy1 hy2 hy3
  go_enter Try.func40, Try.ntmps40
  go_upto_region 1 with fail
  rw [← Hwo.out]
  go_region_held3 (fun w' => w'.cell? ⟨w.heap.size, 1, none⟩ = some (.int .i64 x.fr) ∧ w'.cell? ⟨w.heap.size, 2, none⟩ = some (.int .i64 x.to)) (go_keep)
    ((first
      | (go_at_call 45; with_reducible refine (refNumA hb0 4 y1 M1.out).mono ?_; rintro e w1 ⟨v1, rfl, h1⟩; have k1 := HF.out _ _ h1.swap; obtain ⟨_, _, -⟩ := k1)
      | (go_at_call 45; with_reducible refine (refNumA h1 4 y2 M2.out).mono ?_; rintro e w2 ⟨v2, rfl, h2⟩; have k2 := HF.out _ _ h2.bring2; obtain ⟨_, _, -⟩ := k2)
      | (go_at_call 30; with_reducible refine (Joined_any h2.swap (by have := Hq.out; omega)).mono ?_; rintro e w3 ⟨v3, rfl, h3⟩; have k3 := HF.out _ _ h3.bring2; obtain ⟨_, _, -⟩ := k3)))
  have g3 := h3.swap.drop
  clear h1 h2 h3 hb0
  go_upto_region 3 with (first
    | (go_at_call 45; refine (refNumA g3 2 y3 M3.out).mono ?_; rintro e w4 ⟨v4, rfl, h4⟩)
    | (go_at_call 30; refine (Joined_any h4.swap (by have := Hq.out; simp only [List.length_append]; omega)).mono ?_; rintro e w5 ⟨v5, rfl, h5⟩; have g5 := h5.swap.drop; obtain ⟨-, -, c3, c4, c5, c6⟩ := HF.out _ _ g5.swap; clear h4 h5))
  go_upto_region 4 with (first
    | (go_at_call 31; refine (Ptr_any g5 x.fp).mono ?_; rintro e w6 ⟨v6, rfl, h6⟩)
    | (go_at_call 30; refine (Joined_any h6.swap (by have := Hq.out; simp only [List.length_append]; omega)).mono ?_; rintro e w7 ⟨v7, rfl, h7⟩; have g7 := h7.swap.drop; clear c3 c4 c5 c6; obtain ⟨-, -, c3, c4, c5, c6⟩ := HF.out _ _ g7.swap; clear h6 h7))
  go_upto_region 5 with (first
    | (go_at_call 31; refine (Ptr_any g7 x.fn).mono ?_; rintro e w8 ⟨v8, rfl, h8⟩)
    | (go_at_call 30; refine (Joined_any h8.swap (by have := Hq.out; simp only [List.length_append]; omega)).mono ?_; rintro e w9 ⟨v9, rfl, h9⟩; have g9 := h9.swap.drop; clear c3 c4 c5 c6; obtain ⟨-, -, c3, c4, c5, c6⟩ := HF.out _ _ g9.swap; clear h8 h9))
  go_upto_region 6 with (first
    | (go_at_call 31; refine (Ptr_any g9 x.tp).mono ?_; rintro e w10 ⟨v10, rfl, h10⟩)
    | (go_at_call 30; refine (Joined_any h10.swap (by have := Hq.out; simp only [List.length_append]; omega)).mono ?_; rintro e w11 ⟨v11, rfl, h11⟩; have g11 := h11.swap.drop; clear c3 c4 c5 c6; obtain ⟨-, -, c3, c4, c5, c6⟩ := HF.out _ _ g11.swap; clear h10 h11))
  go_wp2_with (first
    | (go_at_call 31; refine (Ptr_any g11 x.tn).mono ?_; rintro e w12 ⟨v12, rfl, h12⟩)
    | (go_at_call 30; refine (Joined_any h12.swap (by have := Hq.out; simp only [List.length_append]; omega)).mono ?_; rintro e w13 ⟨v13, rfl, h13⟩; have g13 := h13.swap.drop; clear c3 c4 c5 c6; obtain ⟨-, -, c3, c4, c5, c6⟩ := HF.out _ _ g13.swap; clear h12 h13))
  go_ret
  exact ⟨_, rfl, g13.swap.drop⟩
end Go.Proofs.Ytpoaokkmmoeekaa

/- The document's PutRel. -/
namespace Go.Proofs.Ytpoaokkmmoeekaa
open Go.RowKit
set_option linter.unusedVariables false

theorem St.own {l : List Ass} {w0 w : World} {e : TypeId} {v : Value} {bs : List Nat} (h : St Zf (ObA e v bs :: l) w0 w) : OB w w0.heap.size e v bs := by
  obtain ⟨_, ⟨G, H, ⟨ho, rfl⟩, h2, h3, rfl⟩, h4, hf⟩ := h
  refine ⟨ho.1, ?_⟩
  have h := ho.2
  have hs := h4.size
  refine ⟨h.1, ?_⟩
  rcases h.2 with h0 | ⟨g, cap, cur, hv, hb, hh, h1, h2, h3, h5⟩
  · exact .inl h0
  · refine .inr ⟨g, cap, cur, hv, ?_, hh, h1, h2, h3, h5⟩
    rcases hf g (.inl (by unfold rfp; rw [hv]; rfl)) with h | h
    · exact h.elim
    · exact h

def refRelOk (x : RelC) : Bool := linkR x && inR 0 200 x.ty && inR (-1) 65536 x.pr
def refRelB (x : RelC) : List Nat := linkB x ++ ptrB x.pr
theorem linkB_short (x : RelC) : (linkB x).length ≤ 100 := by
  have q0 := putNum_short 4 (uIn x.fr)
  have q1 := putNum_short 4 (uIn x.to)
  have q2 := putNum_short 2 (uIn x.ty)
  have q3 := ptrB_short x.fp
  have q4 := ptrB_short x.fn
  have q5 := ptrB_short x.tp
  have q6 := ptrB_short x.tn
  unfold linkB
  simp only [List.length_append]
  omega
/-- what a Put of the document leaves -/
def RefPut (ok : Bool) (bs : List Nat) (w : World) (e : Ending) (w' : World) : Prop :=
  ∃ v, e = .returned (.tuple #[v, .int .i64 (if ok = true then 0 else 41)]) ∧ OB w' w.heap.size 5 v (if ok = true then bs else []) ∧ Below w.heap.size w w'
theorem refPut_no {w w1 : World} (hb : Below w.heap.size w w1) (N : Nat) (hN : w1.heap.size = N) : OB (w1.alloc (.cells #[] 5)) w.heap.size 5 (.slice (some ⟨N, 0, none⟩) 0 0) [] ∧ Below w.heap.size w (w1.alloc (.cells #[] 5)) := by
  subst hN
  exact ⟨⟨IsBytes.nil, World.ownsRow_lit w1 #[] 0 hb.size (Nat.zero_le _) rfl⟩, hb.alloc hb.size _⟩

set_option maxRecDepth 100000 in
set_option maxHeartbeats 4000000 in
theorem refPutRel_any (x : RelC) (w : World) : Calls Try.prog 19 #[.agg #[.bool x.lv, .int .i64 x.fr, .int .i64 x.to, .int .i64 x.fp, .int .i64 x.tp, .int .i64 x.fn, .int .i64 x.tn, .int .i64 x.ty, .int .i64 x.pr]] w (RefPut (refRelOk x) (refRelB x) w) := by
  have h0 := (St.start Zf w).newBlk 44 #[.bool x.lv, .int .i64 x.fr, .int .i64 x.to, .int .i64 x.fp, .int .i64 x.tp, .int .i64 x.fn, .int .i64 x.tn, .int .i64 x.ty, .int .i64 x.pr]
  obtain ⟨wo, hwo⟩ : ∃ wo, wo = w.alloc (.cells #[.bool x.lv, .int .i64 x.fr, .int .i64 x.to, .int .i64 x.fp, .int .i64 x.tp, .int .i64 x.fn, .int .i64 x.tn, .int .i64 x.ty, .int .i64 x.pr] 44) := ⟨_, rfl⟩
  rw [← hwo] at h0
  have HF : Hid (∀ (l : List Ass) (W : World), St Zf (BlkA w.heap.size 44 #[.bool x.lv, .int .i64 x.fr, .int .i64 x.to, .int .i64 x.fp, .int .i64 x.tp, .int .i64 x.fn, .int .i64 x.tn, .int .i64 x.ty, .int .i64 x.pr] :: l) w W → W.cell? ⟨w.heap.size, 0, none⟩ = some (.bool x.lv) ∧ W.cell? ⟨w.heap.size, 1, none⟩ = some (.int .i64 x.fr) ∧ W.cell? ⟨w.heap.size, 2, none⟩ = some (.int .i64 x.to) ∧ W.cell? ⟨w.heap.size, 3, none⟩ = some (.int .i64 x.fp) ∧ W.cell? ⟨w.heap.size, 4, none⟩ = some (.int .i64 x.tp) ∧ W.cell? ⟨w.heap.size, 5, none⟩ = some (.int .i64 x.fn) ∧ W.cell? ⟨w.heap.size, 6, none⟩ = some (.int .i64 x.tn) ∧ W.cell? ⟨w.heap.size, 7, none⟩ = some (.int .i64 x.ty) ∧ W.cell? ⟨w.heap.size, 8, none⟩ = some (.int .i64 x.pr)) := Lib.hid fun l W h => by
    have hb := h.blk
    exact ⟨by rw [hb.cell 0]; rfl, by rw [hb.cell 1]; rfl, by rw [hb.cell 2]; rfl, by rw [hb.cell 3]; rfl, by rw [hb.cell 4]; rfl, by rw [hb.cell 5]; rfl, by rw [hb.cell 6]; rfl, by rw [hb.cell 7]; rfl, by rw [hb.cell 8]; rfl⟩
  have HL := Lib.hid (LinkRight_any x wo)
  have hlb := linkB_short x
  have hpb := ptrB_short x.pr
  unfold RefPut refRelOk refRelB
  obtain ⟨b1, hb1⟩ : ∃ b, b = linkR x := ⟨_, rfl⟩
  obtain ⟨b2, hb2⟩ : ∃ b, b = inR 0 200 x.ty := ⟨_, rfl⟩
  obtain ⟨b3, hb3⟩ : ∃ b, b = inR (-1) 65536 x.pr := ⟨_, rfl⟩
  have H2 := fun w1 => Lib.hid (In_any x.ty 0 200 w1)
  have H3 := fun w1 => Lib.hid (In_any x.pr (-1) 65536 w1)
  rw [← hb1] at HL ⊢
  rw [← hb2] at H2 ⊢
  rw [← hb3] at H3 ⊢
  have Hq : Hid ((linkB x).length ≤ 100 ∧ (ptrB x.pr).length ≤ 8) := Lib.hid ⟨hlb, hpb⟩
  obtain ⟨c0, c1, c2, c3, c4, c5, c6, c7, c8⟩ := HF.out _ _ h0
  have Hwo := Lib.hid hwo
  have H0 := Lib.hid h0
  clear hwo hb1 hb2 hb3 hlb hpb h0
  cases b1
  · have e0 : ((false && b2 && b3) = true) = False := by simp
    simp only [e0, if_false]
    go_enter Try.func19, Try.ntmps19
    go_upto_region 1 with fail
    rw [← Hwo.out]
    go_wp2_with (go_at_call 39; refine (HL.out).mono ?_; rintro e w1 ⟨rfl, hbw⟩; have g1 := refPut_no (H0.out.below hbw).bel _ rfl)
    go_ret2
    exact ⟨_, rfl, g1⟩
  · cases b2
    · have e0 : ((true && false && b3) = true) = False := by simp
      simp only [e0, if_false]
      go_enter Try.func19, Try.ntmps19
      go_upto_region 1 with fail
      rw [← Hwo.out]
      go_wp2_with (first | (go_at_call 39; refine (HL.out).mono ?_; rintro e w1 ⟨rfl, hbw⟩; obtain ⟨c0, c1, c2, c3, c4, c5, c6, c7, c8⟩ := HF.out _ _ (H0.out.below hbw); have g1 := refPut_no (H0.out.below hbw).bel _ rfl) | (go_at_call 28; refine ((H2 _).out).mono ?_; rintro e w' ⟨rfl, rfl⟩))
      go_ret2
      exact ⟨_, rfl, g1⟩
    · cases b3
      · have e0 : ((true && true && false) = true) = False := by simp
        simp only [e0, if_false]
        go_enter Try.func19, Try.ntmps19
        go_upto_region 1 with fail
        rw [← Hwo.out]
        go_wp2_with (first | (go_at_call 39; refine (HL.out).mono ?_; rintro e w1 ⟨rfl, hbw⟩; obtain ⟨c0, c1, c2, c3, c4, c5, c6, c7, c8⟩ := HF.out _ _ (H0.out.below hbw); have g1 := refPut_no (H0.out.below hbw).bel _ rfl) | (go_at_call 28; with_reducible refine ((H2 _).out).mono ?_; rintro e w' ⟨rfl, rfl⟩) | (go_at_call 28; with_reducible refine ((H3 _).out).mono ?_; rintro e w' ⟨rfl, rfl⟩))
        go_ret2
        exact ⟨_, rfl, g1⟩
      · have e0 : ((true && true && true) = true) = True := by simp
        simp only [e0, if_true]
        go_enter Try.func19, Try.ntmps19
        go_upto_region 1 with fail
        rw [← Hwo.out]
        go_upto_region 3 with (first | (go_at_call 39; refine (HL.out).mono ?_; rintro e w1 ⟨rfl, hbw⟩; obtain ⟨c0, c1, c2, c3, c4, c5, c6, c7, c8⟩ := HF.out _ _ (H0.out.below hbw); have g1 := Lib.hid (H0.out.below hbw); clear hbw) | (go_at_call 28; with_reducible refine ((H2 _).out).mono ?_; rintro e w' ⟨rfl, rfl⟩) | (go_at_call 28; with_reducible refine ((H3 _).out).mono ?_; rintro e w' ⟨rfl, rfl⟩))
        have g2 := g1.out.drew
        have HLB := Lib.hid (LinkBytes_any x w1.drew)
        go_region_held3 (fun w' => w'.cell? ⟨w.heap.size, 0, none⟩ = some (.bool x.lv) ∧ w'.cell? ⟨w.heap.size, 1, none⟩ = some (.int .i64 x.fr) ∧ w'.cell? ⟨w.heap.size, 2, none⟩ = some (.int .i64 x.to) ∧ w'.cell? ⟨w.heap.size, 3, none⟩ = some (.int .i64 x.fp) ∧ w'.cell? ⟨w.heap.size, 4, none⟩ = some (.int .i64 x.tp) ∧ w'.cell? ⟨w.heap.size, 5, none⟩ = some (.int .i64 x.fn) ∧ w'.cell? ⟨w.heap.size, 6, none⟩ = some (.int .i64 x.tn) ∧ w'.cell? ⟨w.heap.size, 7, none⟩ = some (.int .i64 x.ty) ∧ w'.cell? ⟨w.heap.size, 8, none⟩ = some (.int .i64 x.pr)) (go_keep)
          ((first
            | (go_at_call 40; refine (HLB.out).mono ?_; rintro e w2 ⟨v2, rfl, h2⟩; have h3 := g2.addSt h2; have k2 := HF.out _ _ h3.swap; obtain ⟨_, _, _, _, _, _, _, _, _⟩ := k2)
            | (go_at_call 31; refine (Ptr_any h3 x.pr).mono ?_; rintro e w4 ⟨v4, rfl, h4⟩; have k4 := HF.out _ _ h4.bring2; obtain ⟨_, _, _, _, _, _, _, _, _⟩ := k4)
            | (go_at_call 30; refine (Joined_any h4.swap (by have := Hq.out; omega)).mono ?_; rintro e w5 ⟨v5, rfl, h5⟩; have k5 := HF.out _ _ h5.bring2; obtain ⟨_, _, _, _, _, _, _, _, _⟩ := k5)))
        go_wp2
        go_ret2
        exact ⟨_, rfl, h5.own, h5.bel⟩
end Go.Proofs.Ytpoaokkmmoeekaa
