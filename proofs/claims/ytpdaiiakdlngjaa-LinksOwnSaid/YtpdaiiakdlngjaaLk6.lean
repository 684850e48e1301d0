/- links: Thread. -/
import Derived.Test.YtpdaiiakdlngjaaLk5
namespace Go.Proofs.Ytpdaiiakdlngjaa
open Go.RowKit
set_option linter.unusedVariables false

theorem St.rowAt {α : Type} [Inhabited α] {f : α → List Value} {s : Nat} {S : Fp} {l : List Ass} {w0 w : World} {e : TypeId} {g n c : Nat} {L : List α} (hf : RowF f s) (h : St S (OwA f s e (.slice (some ⟨g, 0, none⟩) n c) L :: l) w0 w) {k : Nat} (hk : k < L.length) : w.rangeAt g (k * s) (f (nthD L k)) := by
  obtain ⟨b, off, hA, -, hc⟩ := h.owReads.2.1.all hf (by omega)
  simp only [Option.some.injEq, Addr.mk.injEq] at hA
  obtain ⟨rfl, rfl, -⟩ := hA
  have := hc k _ (nthD_get hk)
  rwa [Nat.zero_add] at this
theorem lkwrap (x : Int) : wrap64 x = (x + 9223372036854775808) % 18446744073709551616 - 9223372036854775808 := by unfold wrap64; rfl
theorem nthD_set {α : Type} [Inhabited α] {L : List α} {k : Nat} (h : k < L.length) (y : α) : nthD (L.set k y) k = y := by
  rw [nthD_lt (by simpa using h)]
  simp
theorem nthD_set_ne {α : Type} [Inhabited α] {L : List α} {k m : Nat} (h : m ≠ k) (y : α) : nthD (L.set m y) k = nthD L k := by
  simp [nthD, List.getD_eq_getElem?_getD, h]
theorem fe_zero {α : Type} {f : α → Int} : ∀ {L : List α}, fe f L = 0 → ∀ x ∈ L, f x = 0
  | [], _, x, hx => by cases hx
  | y :: r, h, x, hx => by
    have h2 : (if f y = 0 then fe f r else f y) = 0 := h
    split at h2
    · rename_i h0
      rcases List.mem_cons.1 hx with rfl | hx
      · exact h0
      · exact fe_zero h2 x hx
    · rename_i h0
      exact absurd h2 h0
theorem chk_ok {L : List LkC} {node : Int} {O : List Int} (h : chk L node O = 0) {k : Nat} (hk : k < O.length) : cErr L node O k = 0 := fe_zero h k (by simpa using hk)
theorem chk_at {L : List LkC} {node : Int} {O : List Int} (h : chk L node O = 0) {k : Nat} (hk : k < O.length) : ∃ m : Nat, nthI O k = m ∧ m < L.length ∧ (nthD L m).lv = true ∧ tb (nthD L m) node = true ∧ ¬ (nthI O k ∈ O.take k) := by
  have h1 := chk_ok h hk
  unfold cErr at h1
  split at h1
  · rename_i h2
    split at h1
    · cases h1
    · rename_i h3
      obtain ⟨m, h4, h5, h6, h7⟩ := tch_ok h2
      exact ⟨m, h4, h5, h6, h7, h3⟩
  · rename_i h2
    exact absurd h1 h2
theorem layL_ends (node p n : Int) (x : LkC) : (layL node p n x).fr = x.fr ∧ (layL node p n x).to = x.to ∧ (layL node p n x).lv = x.lv := by
  unfold layL
  split
  · split <;> exact ⟨rfl, rfl, rfl⟩
  · exact ⟨rfl, rfl, rfl⟩
theorem thrK_ends (L : List LkC) (node : Int) (O : List Int) (m : Nat) : ∀ k, (nthD (thrK L node O k) m).fr = (nthD L m).fr ∧ (nthD (thrK L node O k) m).to = (nthD L m).to ∧ (nthD (thrK L node O k) m).lv = (nthD L m).lv
  | 0 => ⟨rfl, rfl, rfl⟩
  | k + 1 => by
    have ih := thrK_ends L node O m k
    unfold thrK
    by_cases h : (nthI O k).toNat = m
    · rcases Nat.lt_or_ge m (thrK L node O k).length with hm | hm
      · rw [h, nthD_set hm]
        have := layL_ends node (atI O ((k : Int) - 1)) (atI O ((k : Int) + 1)) (nthD (thrK L node O k) m)
        exact ⟨this.1.trans ih.1, this.2.1.trans ih.2.1, this.2.2.trans ih.2.2⟩
      · rw [h, List.set_eq_of_length_le hm]
        exact ih
    · rw [nthD_set_ne h]
      exact ih
def thrP (L : List LkC) (node : Int) (O : List Int) : List LkC := if chk L node O = 0 then thrK L node O O.length else []
def NewT (L : List LkC) (node : Int) (O : List Int) (w : World) (e : Ending) (w' : World) : Prop := ∃ v, e = .returned (.tuple #[v, .int .i64 (chk L node O)]) ∧ w'.ownsRow w.heap.size 46 7 v (thrP L node O).length ((thrP L node O).flatMap lkc) ∧ Below w.heap.size w w'
theorem St.ownR {l : List Ass} {w0 w : World} {α : Type} {f : α → List Value} {s : Nat} {e : TypeId} {v : Value} {L : List α} (h : St Zf (OwA f s e v L :: l) w0 w) : w.ownsRow w0.heap.size e s v L.length (L.flatMap f) := by
  obtain ⟨_, ⟨G, H, ⟨ho, rfl⟩, h2, h3, rfl⟩, h4, hf⟩ := h
  refine ⟨ho.1, ?_⟩
  rcases ho.2 with h0 | ⟨g, cap, cur, hv, hb, hh, h1, h2, h3, h5⟩
  · exact .inl h0
  · refine .inr ⟨g, cap, cur, hv, ?_, hh, h1, h2, h3, h5⟩
    rcases hf g (.inl (by rw [hv]; rfl)) with h6 | h6
    · exact h6.elim
    · exact h6

set_option maxRecDepth 100000 in
set_option maxHeartbeats 600000 in
theorem Thread_any (A : Option Addr) (cap B : Nat) (L : List LkC) (node : Int) (A' : Option Addr) (cap' B' : Nat) (O : List Int) (w : World) (h : RR lkc 7 w B A L) (hB : B ≤ w.heap.size) (hl : L.length * 56 ≤ 140737488355328)
    (h' : RL ivl w B' A' O) (hB' : B' ≤ w.heap.size) (hl' : O.length ≤ 140737488355328) (hO : ∀ x ∈ O, inI x) :
    Calls Try.prog 16 #[.slice A L.length cap, .int .i64 node, .slice A' O.length cap'] w (NewT L node O w) := by
  have H1 := Lib.hid (checkOrder_any A cap B L node A' cap' B' O w h hB hl h' hB' hl' hO)
  obtain ⟨e0, he0⟩ : ∃ e0, e0 = chk L node O := ⟨_, rfl⟩
  rw [← he0] at H1
  by_cases hz : e0 = 0
  · have hck : chk L node O = 0 := he0.symm.trans hz
    subst hz
    have HR : Hid (thrP L node O = thrK L node O O.length) := Lib.hid (by unfold thrP; rw [if_pos hck])
    have HCK := Lib.hid hck
    clear hck he0
    go_enter Try.func16, Try.ntmps16
    go_upto_region 4 with (go_at_call 23; refine (H1.out).mono ?_; rintro e w1 ⟨rfl, hb1⟩)
    have HC := Lib.hid (cloneLk_any A cap B L w1 (h.below' hb1 hB) (Nat.le_trans hB hb1.size) hl)
    have h0 := (St.start Zf w).below hb1
    go_upto_region 6 with (go_at_call 24; refine (HC.out).mono ?_; rintro e w2 ⟨v2, rfl, ho2, hb2⟩; have h2 := h0.newOw ho2 hb2; obtain ⟨A2, c2, rfl, -, -, -⟩ := h2.owForm)
    have H2 := Lib.hid h2
    clear h0 h2 ho2 hb2 HC hb1 H1
    go_loopw [26] (fun i wr => ∃ k : Nat, k ≤ O.length ∧ i = .int .i64 k ∧ St Zf [OwA lkc 7 46 (.slice A2 L.length c2) (thrK L node O k)] w wr) (fun i _ => O.length - (intOf i).toNat)
    case atStart => exact ⟨0, Nat.zero_le _, rfl, H2.out⟩
    case round =>
      obtain ⟨k, hk, rfl, hst⟩ := hrel
      by_cases hlt : k < O.length
      · obtain ⟨m, hm, hml, hlv, htb, hnot⟩ := chk_at HCK.out hlt
        have hr := hst.rl h' hB'
        obtain ⟨b, off, rfl, hb, hcs⟩ := hr.allI (by omega)
        have hc := hcs k hlt
        have htl := thrK_len L node O k
        have hends := thrK_ends L node O m k
        have hsucc : thrK L node O (k + 1) = (thrK L node O k).set m (layL node (atI O ((k : Int) - 1)) (atI O ((k : Int) + 1)) (nthD (thrK L node O k) m)) := by
          show (thrK L node O k).set (nthI O k).toNat _ = _
          rw [hm, Int.toNat_natCast]
        rw [hm] at hc
        obtain ⟨T, hT⟩ : ∃ T, T = thrK L node O k := ⟨_, rfl⟩
        rw [← hT] at hst htl hsucc hends
        have htb2 : tb (nthD T m) node = true := by
          unfold tb at htb ⊢
          rw [hends.1, hends.2.1]
          exact htb
        obtain ⟨x, hx⟩ : ∃ x, x = nthD T m := ⟨_, rfl⟩
        rw [← hx] at hsucc htb2
        have hmT : m < T.length := by omega
        obtain ⟨pv, hpv⟩ : ∃ pv, pv = atI O ((k : Int) - 1) := ⟨_, rfl⟩
        obtain ⟨nx, hnx⟩ : ∃ nx, nx = atI O ((k : Int) + 1) := ⟨_, rfl⟩
        rw [← hpv, ← hnx] at hsucc
        obtain ⟨g, hA2, -⟩ := hst.storeRow lkc_f htl hml x
        subst hA2
        have hrow := hst.rowAt lkc_f hmT
        rw [← hx] at hrow
        obtain ⟨-, c1, -⟩ := lk_cells hrow
        have hsd := side_any g (m * 7) x.fr node wr c1
        have hmn : (g, m * 7) = (g, m * 7) := rfl
        by_cases hf : x.fr = node
        · rw [if_pos hf, if_pos hf] at hsd
          have HSD := Lib.hid hsd
          have HST := Lib.hid hst
          have HX := Lib.hid hx
          have HSU := Lib.hid hsucc
          have HTB := Lib.hid htb2
          clear hsd hst hx hsucc htb2 hrow c1 hmn htb hends hnot hm hT hcs hr
          go_upto_region 10 with (go_at_call 25; refine (HSD.out).mono ?_; rintro e w3 ⟨rfl, n3, hw3⟩; have h3 := HST.out.drewN n3; rw [← hw3] at h3; clear hw3)
          have HA1 := Lib.hid (lkAt_any (some ⟨b, off, none⟩) cap' B' O ((k : Int) - 1) w3 (h3.rl h' hB') hl')
          have HA2 := Lib.hid (lkAt_any (some ⟨b, off, none⟩) cap' B' O ((k : Int) + 1) w3 (h3.rl h' hB') hl')
          rw [← hpv] at HA1
          rw [← hnx] at HA2
          clear hpv hnx
          obtain ⟨g', hg', ⟨u3, c3⟩, f3, h4⟩ := h3.storeField lkc_f htl hml (j := 3) (by decide) { x with fp := pv } (.int .i64 pv) (by rw [← HX.out]; rfl)
          obtain ⟨-, -⟩ : g' = g' ∧ True := ⟨rfl, trivial⟩
          have e4 : nthD (T.set m { x with fp := pv }) m = { x with fp := pv } := nthD_set hmT _
          obtain ⟨g'', hg'', ⟨u5, c5⟩, f5, h5⟩ := h4.storeField lkc_f (by rw [List.length_set]; exact htl) hml (j := 5) (by decide) { x with fp := pv, fn := nx } (.int .i64 nx) (by rw [e4]; rfl)
          simp only [Option.some.injEq, Addr.mk.injEq, and_true] at hg' hg''
          subst hg' hg''
          rw [List.set_set] at h5
          have H5 := Lib.hid h5
          clear h4 e4 h5 h3 HST HSD
          go_upto_region 11 with (first
            | (go_at_call 26; with_reducible refine (HA1.out).mono ?_; rintro e w4 ⟨rfl, rfl⟩)
            | (go_at_call 26; with_reducible refine (HA2.out).mono ?_; rintro e w4 ⟨rfl, rfl⟩))
          obtain ⟨w5, hw5⟩ : ∃ q, q = (w3.setCell ⟨g, m * 7 + 3, none⟩ (.int .i64 pv)).setCell ⟨g, m * 7 + 5, none⟩ (.int .i64 nx) := ⟨_, rfl⟩
          rw [← hw5] at H5 ⊢
          clear hw5 c3 c5 f3 f5 HA1 HA2
          obtain ⟨y, hy⟩ : ∃ y : LkC, y = { x with fp := pv, fn := nx } := ⟨_, rfl⟩
          have H6 := H5.out
          rw [← hy] at H6
          have hrow5 := H6.rowAt lkc_f (k := m) (by rw [List.length_set]; exact hmT)
          rw [nthD_set hmT] at hrow5
          have HROW := Lib.hid hrow5
          have hiso := isLoop_any y w5
          by_cases ht : x.to = node
          · have e9 : decide (y.fr = y.to) = true := by rw [hy]; exact decide_eq_true (hf.trans ht.symm)
            rw [e9] at hiso
            have HI := Lib.hid hiso
            have HB6 := Lib.hid H6
            have HL : Hid (thrK L node O (k + 1) = T.set m { y with tp := -1, tn := -1 }) := Lib.hid (by rw [HSU.out]; unfold layL; rw [if_pos hf, if_pos ht, hy])
            clear hiso hrow5 e9 hf ht H5 hy H6
            go_upto_region 12 with (first
              | (refine wpList_load_mid rfl 46 _ rfl g (m * 7) rfl (lkc y) _ HROW.out Try.underlying46 rfl lk_size ?_)
              | (go_at_call 27; refine (HI.out).mono ?_; rintro e w6 ⟨rfl, hb6⟩; have H8 := HB6.out.below hb6; clear hb6))
            obtain ⟨q1, hq1, ⟨u4, c4⟩, f4, h7⟩ := H8.storeField lkc_f (by rw [List.length_set]; exact htl) hml (j := 4) (by decide) { y with tp := -1 } (.int .i64 (-1)) (by rw [nthD_set hmT]; rfl)
            have e4 : nthD ((T.set m y).set m { y with tp := -1 }) m = { y with tp := -1 } := nthD_set (by rw [List.length_set]; exact hmT) _
            obtain ⟨q2, hq2, ⟨u6, c6⟩, f6, h8⟩ := h7.storeField lkc_f (by rw [List.length_set, List.length_set]; exact htl) hml (j := 6) (by decide) { y with tp := -1, tn := -1 } (.int .i64 (-1)) (by rw [e4]; rfl)
            simp only [Option.some.injEq, Addr.mk.injEq, and_true] at hq1 hq2
            subst hq1 hq2
            rw [List.set_set, List.set_set] at h8
            have H9 := Lib.hid h8
            clear h7 h8 e4 H8 HB6
            go_wp2
            go_roundw
            case rel => exact ⟨k + 1, by omega, by go_num, by rw [HL.out]; exact H9.out⟩
            case measure => simp [intOf]; omega
          · have e9 : decide (y.fr = y.to) = false := by rw [hy]; exact decide_eq_false (fun e => ht (e ▸ hf))
            rw [e9] at hiso
            have HI := Lib.hid hiso
            have HL : Hid (thrK L node O (k + 1) = T.set m y) := Lib.hid (by rw [HSU.out]; unfold layL; rw [if_pos hf, if_neg ht, hy])
            have H7 := Lib.hid H6
            clear hiso hrow5 e9 hf ht H6 H5 hy
            go_wp2_with (first
              | (refine wpList_load_mid rfl 46 _ rfl g (m * 7) rfl (lkc y) _ HROW.out Try.underlying46 rfl lk_size ?_)
              | (go_at_call 27; refine (HI.out).mono ?_; rintro e w6 ⟨rfl, hb6⟩; have H8 := Lib.hid (H7.out.below hb6); clear hb6))
            go_roundw
            case rel => exact ⟨k + 1, by omega, by go_num, by rw [HL.out]; exact H8.out⟩
            case measure => simp [intOf]; omega
        · rw [if_neg hf, if_neg hf] at hsd
          have HSD := Lib.hid hsd
          have HST := Lib.hid hst
          have HX := Lib.hid hx
          have HSU := Lib.hid hsucc
          have HTB := Lib.hid htb2
          clear hsd hst hx hsucc htb2 hrow c1 hmn htb hends hnot hm hT hcs hr
          go_upto_region 10 with (go_at_call 25; refine (HSD.out).mono ?_; rintro e w3 ⟨rfl, n3, hw3⟩; have h3 := HST.out.drewN n3; rw [← hw3] at h3; clear hw3)
          have HA1 := Lib.hid (lkAt_any (some ⟨b, off, none⟩) cap' B' O ((k : Int) - 1) w3 (h3.rl h' hB') hl')
          have HA2 := Lib.hid (lkAt_any (some ⟨b, off, none⟩) cap' B' O ((k : Int) + 1) w3 (h3.rl h' hB') hl')
          rw [← hpv] at HA1
          rw [← hnx] at HA2
          clear hpv hnx
          obtain ⟨g', hg', ⟨u3, c3⟩, f3, h4⟩ := h3.storeField lkc_f htl hml (j := 4) (by decide) { x with tp := pv } (.int .i64 pv) (by rw [← HX.out]; rfl)
          have e4 : nthD (T.set m { x with tp := pv }) m = { x with tp := pv } := nthD_set hmT _
          obtain ⟨g'', hg'', ⟨u5, c5⟩, f5, h5⟩ := h4.storeField lkc_f (by rw [List.length_set]; exact htl) hml (j := 6) (by decide) { x with tp := pv, tn := nx } (.int .i64 nx) (by rw [e4]; rfl)
          simp only [Option.some.injEq, Addr.mk.injEq, and_true] at hg' hg''
          subst hg' hg''
          rw [List.set_set] at h5
          have H5 := Lib.hid h5
          clear h4 e4 h5 h3 HST HSD
          go_upto_region 11 with (first
            | (go_at_call 26; with_reducible refine (HA1.out).mono ?_; rintro e w4 ⟨rfl, rfl⟩)
            | (go_at_call 26; with_reducible refine (HA2.out).mono ?_; rintro e w4 ⟨rfl, rfl⟩))
          obtain ⟨w5, hw5⟩ : ∃ q, q = (w3.setCell ⟨g, m * 7 + 4, none⟩ (.int .i64 pv)).setCell ⟨g, m * 7 + 6, none⟩ (.int .i64 nx) := ⟨_, rfl⟩
          rw [← hw5] at H5 ⊢
          clear hw5 c3 c5 f3 f5 HA1 HA2
          obtain ⟨y, hy⟩ : ∃ y : LkC, y = { x with tp := pv, tn := nx } := ⟨_, rfl⟩
          have H6 := H5.out
          rw [← hy] at H6
          have hrow5 := H6.rowAt lkc_f (k := m) (by rw [List.length_set]; exact hmT)
          rw [nthD_set hmT] at hrow5
          have HROW := Lib.hid hrow5
          have hiso := isLoop_any y w5
          have ht : x.to = node := by
            have := HTB.out
            unfold tb at this
            simpa [hf] using this
          have e9 : decide (y.fr = y.to) = false := by rw [hy]; exact decide_eq_false (fun e => hf (e.trans ht))
          rw [e9] at hiso
          have HI := Lib.hid hiso
          have HL : Hid (thrK L node O (k + 1) = T.set m y) := Lib.hid (by rw [HSU.out]; unfold layL; rw [if_neg hf, hy])
          have H7 := Lib.hid H6
          clear hiso hrow5 e9 hf ht H6 H5 hy
          go_wp2_with (first
            | (refine wpList_load_mid rfl 46 _ rfl g (m * 7) rfl (lkc y) _ HROW.out Try.underlying46 rfl lk_size ?_)
            | (go_at_call 27; refine (HI.out).mono ?_; rintro e w6 ⟨rfl, hb6⟩; have H8 := Lib.hid (H7.out.below hb6); clear hb6))
          go_roundw
          case rel => exact ⟨k + 1, by omega, by go_num, by rw [HL.out]; exact H8.out⟩
          case measure => simp [intOf]; omega
      · obtain rfl : k = O.length := by omega
        have HST := Lib.hid hst
        clear hst h h' 
        go_wp2
        go_ret2
        refine ⟨_, by rw [HCK.out]; rfl, ?_, HST.out.bel⟩
        have := HST.out.ownR
        rw [HR.out, thrK_len]
        rwa [thrK_len] at this
  · have hne : chk L node O ≠ 0 := fun h => hz (he0.trans h)
    have HR : Hid (thrP L node O = []) := Lib.hid (by unfold thrP; rw [if_neg hne])
    have HE := Lib.hid he0
    have e1 : (e0 != 0) = true := by simp [hz]
    clear hne he0 hz
    go_enter Try.func16, Try.ntmps16
    go_wp2_with (go_at_call 23; refine (H1.out).mono ?_; rintro e w1 ⟨rfl, hb1⟩; have HB1 := Lib.hid hb1; clear hb1)
    go_ret2
    refine ⟨_, by rw [HE.out]; rfl, ?_, HB1.out⟩
    rw [HR.out]
    exact World.ownsRow_nil _ _ _ _
end Go.Proofs.Ytpdaiiakdlngjaa
