/- The document's Same: texts, properties. -/
import Derived.Test.YthnaipgdjbaebaaGreatGrSame
import Derived.Test.YthnaipgdjbaebaaGreatValSame3
import Derived.Deep.QuietTactic
import Derived.BigQuiet
import Derived.Deep.RegionHeld3
namespace Go.Proofs.YthnaipgdjbaebaaGreat
open Go.RowKit
set_option linter.unusedVariables false

set_option maxHeartbeats 1000000 in
theorem refSameTexts_any (A A' : Option Addr) (cap cap' B B' : Nat) (xs ys : List ByteArray) (w : World) (h : RL svl w B A xs) (h' : RL svl w B' A' ys) (hl : xs.length ≤ 140737488351232) (hl' : ys.length ≤ 140737488351232) :
    Calls Tryz.prog 29 #[.slice A xs.length cap, .slice A' ys.length cap'] w (SameB (decide (xs = ys)) w) := by
  by_cases h0 : xs.length = ys.length
  · have hb : ((xs.length : Int) != (ys.length : Int)) = false := by simp [h0]
    have H0 := Lib.hid h0
    have h1 : xs.length ≤ ys.length := by omega
    have h2 : ys.length ≤ xs.length := by omega
    clear h0
    go_enter Tryz.func29, Tryz.ntmps29
    go_wp2
    go_loopw [5] (fun i wr => ∃ k n : Nat, k ≤ xs.length ∧ i = .int .i64 k ∧ xs.take k = ys.take k ∧ wr = w.drewN n) (fun i _ => xs.length - (intOf i).toNat)
    case atStart => exact ⟨0, 0, Nat.zero_le _, rfl, rfl, rfl⟩
    case round =>
      obtain ⟨k, n, hk, rfl, heq, rfl⟩ := hrel
      by_cases hlt : k < xs.length
      · obtain ⟨b, off, rfl, _, hc⟩ := h.allS (by omega)
        obtain ⟨b', off', rfl, _, hc'⟩ := h'.allS (by omega)
        have q := hc k hlt
        have q' := hc' k (by omega)
        have hi0 : (0 : Int) ≤ (k : Int) := by omega
        have hi1 : (k : Int) < (xs.length : Int) := by omega
        have hi2 : (k : Int) < (ys.length : Int) := by omega
        clear hc hc'
        by_cases hne : nthS xs k = nthS ys k
        · have hb1 : ((nthS xs k).toList == (nthS ys k).toList) = true := by rw [hne]; exact beq_self_eq_true _
          have Hq : Hid (xs.take (k + 1) = ys.take (k + 1)) := Lib.hid (by rw [takeS_succ hlt, takeS_succ (by omega), heq, hne])
          clear heq hne
          go_wp2
          go_quiet (fail)
          go_wp2
          go_roundw
          case rel => exact ⟨k + 1, n + nq, by omega, by go_num, Hq.out, rfl⟩
          case measure => simp [intOf]; omega
        · have hb1 : ((nthS xs k).toList == (nthS ys k).toList) = false := by
            rw [beq_eq_false_iff_ne]; exact fun e => hne (str_inj e)
          have Hn : Hid (decide (xs = ys) = false) := Lib.hid (decide_eq_false (fun e => hne (by rw [e])))
          clear heq hne
          go_wp2
          go_quiet (fail)
          go_wp2
          go_ret
          exact ⟨ret_bool Hn.out.symm, n + nq, World.drewN_drewN _ _ _⟩
      · have Hn : Hid (decide (xs = ys) = true) := Lib.hid (decide_eq_true (by
          rw [List.take_of_length_le (by omega), List.take_of_length_le (by omega)] at heq; exact heq))
        clear heq
        go_wp2
        go_ret
        exact ⟨ret_bool Hn.out.symm, n, rfl⟩
  · have hb : ((xs.length : Int) != (ys.length : Int)) = true := by rw [bne_iff_ne]; omega
    have Hn : Hid (decide (xs = ys) = false) := Lib.hid (decide_eq_false (fun e => h0 (by rw [e])))
    clear h0
    go_enter Tryz.func29, Tryz.ntmps29
    go_wp2
    go_ret
    exact ⟨ret_bool Hn.out.symm, 0, rfl⟩

set_option maxRecDepth 100000 in
set_option maxHeartbeats 2000000 in
theorem refSameProps_any (A A' : Option Addr) (cap cap' B : Nat) (L M : List Pv) (w : World) (h : PropsR w B A L) (h' : PropsR w B A' M) (hB : B ≤ w.heap.size) (hl : L.length ≤ 140737488351232) (hl' : M.length ≤ 140737488351232) :
    Calls Tryz.prog 43 #[.slice A L.length cap, .slice A' M.length cap'] w (Says (eqF sameP L M) w) := by
  have H := Lib.hid h
  have H' := Lib.hid h'
  clear h h'
  by_cases h0 : L.length = M.length
  · have hb : ((L.length : Int) != (M.length : Int)) = false := by simp [h0]
    have H0 := Lib.hid h0
    have h1 : L.length ≤ M.length := by omega
    have h2 : M.length ≤ L.length := by omega
    clear h0
    go_enter Tryz.func43, Tryz.ntmps43
    go_wp2
    go_loopw [5] (fun i wr => ∃ k : Nat, k ≤ L.length ∧ i = .int .i64 k ∧ (∀ j a b, j < k → L[j]? = some a → M[j]? = some b → sameP a b = true) ∧ Below w.heap.size w wr) (fun i _ => L.length - (intOf i).toNat)
    case atStart => exact ⟨0, Nat.zero_le _, rfl, fun j a b hj => by omega, Below.refl _ _⟩
    case round =>
      obtain ⟨k, hk, rfl, heq, hbw⟩ := hrel
      by_cases hlt : k < L.length
      · have hlt' : k < M.length := by omega
        obtain ⟨x, hx⟩ : ∃ x, L[k]? = some x := ⟨_, List.getElem?_eq_getElem hlt⟩
        obtain ⟨y, hy⟩ : ∃ y, M[k]? = some y := ⟨_, List.getElem?_eq_getElem hlt'⟩
        have hsz := hbw.size
        obtain ⟨b, off, rfl, hbB, A1, c1, A2, c2, hc, hr1, hr2, hok, hks⟩ := (PropsR.below H.out (hbw.mono hB)) k _ hx
        obtain ⟨b', off', rfl, hbB', A3, c3, A4, c4, hc', hr3, hr4, hok', hks'⟩ := (PropsR.below H'.out (hbw.mono hB)) k _ hy
        obtain ⟨q0, q1, q2, q3, q4, q5⟩ := prop_cells hc
        obtain ⟨s0, s1, s2, s3, s4, s5⟩ := prop_cells hc'
        have HS := refSame_any x.val y.val _ _ B wr.drew ⟨A1, c1, A2, c2, rfl, hr1, hr2, hok⟩ ⟨A3, c3, A4, c4, rfl, hr3, hr4, hok'⟩ (by show B ≤ wr.heap.size; omega)
        have HP : Hid (∀ w', Below wr.heap.size wr w' → CellsAt w' b (off + k * 6) (pcells x A1 c1 A2 c2) ∧ CellsAt w' b' (off' + k * 6) (pcells y A3 c3 A4 c4)) := Lib.hid fun w' hb => ⟨hc.below hb (by omega), hc'.below hb (by omega)⟩
        have Hx := Lib.hid hx
        have Hy := Lib.hid hy
        have Heq := Lib.hid heq
        have hi0 : (0 : Int) ≤ (k : Int) := by omega
        have hi1 : (k : Int) < (M.length : Int) := by omega
        have hi2 : (k : Int) < (L.length : Int) := by omega
        obtain ⟨E, hE⟩ : ∃ E, E = sameV x.val y.val := ⟨_, rfl⟩
        rw [← hE] at HS
        have hP : sameP x y = (decide (x.key = y.key) && E) := by rw [hE]; rfl
        obtain ⟨key, ⟨vk, vn, vs, ns, ts⟩⟩ := x
        obtain ⟨key', ⟨vk', vn', vs', ns', ts'⟩⟩ := y
        simp only [vagg] at q0 q1 q2 q3 q4 q5 s0 s1 s2 s3 s4 s5 hks hks' HS HP hP
        have HS := Lib.hid HS
        clear hc hc' hr1 hr2 hr3 hr4 hok hok' hx hy heq hE
        by_cases hkk : key = key'
        · have f1 : (key.toList == key'.toList) = true := by rw [hkk]; exact beq_self_eq_true _
          have HE : Hid (sameP ⟨key, ⟨vk, vn, vs, ns, ts⟩⟩ ⟨key', ⟨vk', vn', vs', ns', ts'⟩⟩ = E) := Lib.hid (by rw [hP, hkk]; simp)
          clear hP hkk
          go_wp2
          go_region_held3 (fun w' => w'.cell? ⟨b, off + k * 6, none⟩ = some (.string key) ∧ w'.cell? ⟨b, off + k * 6 + 1, none⟩ = some (.int .i64 vk) ∧ w'.cell? ⟨b, off + k * 6 + 2, none⟩ = some (.int .i64 vn) ∧ w'.cell? ⟨b, off + k * 6 + 3, none⟩ = some (.string vs) ∧ w'.cell? ⟨b, off + k * 6 + 4, none⟩ = some (.slice A1 ns.length c1) ∧ w'.cell? ⟨b, off + k * 6 + 5, none⟩ = some (.slice A2 ts.length c2) ∧
              w'.cell? ⟨b', off' + k * 6, none⟩ = some (.string key') ∧ w'.cell? ⟨b', off' + k * 6 + 1, none⟩ = some (.int .i64 vk') ∧ w'.cell? ⟨b', off' + k * 6 + 2, none⟩ = some (.int .i64 vn') ∧ w'.cell? ⟨b', off' + k * 6 + 3, none⟩ = some (.string vs') ∧ w'.cell? ⟨b', off' + k * 6 + 4, none⟩ = some (.slice A3 ns'.length c3) ∧ w'.cell? ⟨b', off' + k * 6 + 5, none⟩ = some (.slice A4 ts'.length c4)) (go_keep)
            ((go_at_call 65; refine HS.out.mono ?_; rintro e w8 ⟨rfl, hb8⟩; have hb8' := Lib.hid (show Below wr.heap.size wr w8 from ⟨hb8.os, hb8.tape, hb8.output, hb8.size, hb8.block⟩); obtain ⟨hp1, hp2⟩ := HP.out w8 hb8'.out; obtain ⟨t0, t1, t2, t3, t4, t5⟩ := prop_cells hp1; obtain ⟨u0, u1, u2, u3, u4, u5⟩ := prop_cells hp2; clear hp1 hp2 hb8))
          have hb9 := hbw.trans (hb8'.out.mono hsz)
          clear q0 q1 q2 q3 q4 q5 s0 s1 s2 s3 s4 s5 t0 t1 t2 t3 t4 t5 u0 u1 u2 u3 u4 u5
          cases E
          · have Hn : Hid (eqF sameP L M = false) := Lib.hid (eqF_no Hx.out Hy.out HE.out)
            go_wp2
            go_ret
            exact ⟨ret_bool Hn.out.symm, hb9⟩
          · go_wp2
            go_roundw
            case rel =>
              refine ⟨k + 1, by omega, by go_num, fun j a b hj ha hb => ?_, hb9⟩
              rcases Nat.lt_or_ge j k with hj' | hj'
              · exact Heq.out j a b hj' ha hb
              · obtain rfl : j = k := by omega
                have e1 := Hx.out
                have e2 := Hy.out
                rw [ha] at e1
                rw [hb] at e2
                injection e1 with e1
                injection e2 with e2
                rw [e1, e2, HE.out]
            case measure => simp [intOf]; omega
        · have f1 : (key.toList == key'.toList) = false := by rw [beq_eq_false_iff_ne]; exact fun e => hkk (str_inj e)
          have Hn : Hid (eqF sameP L M = false) := Lib.hid (eqF_no Hx.out Hy.out (by rw [hP]; simp [hkk]))
          clear hP hkk HS
          go_wp2
          go_quiet (fail)
          go_wp2
          go_ret
          exact ⟨ret_bool Hn.out.symm, below_drewN hbw _⟩
      · have Hn : Hid (eqF sameP L M = true) := Lib.hid (eqF_yes H0.out fun j a b ha hb => heq j a b (by have := (List.getElem?_eq_some_iff.1 ha).1; omega) ha hb)
        clear heq
        go_wp2
        go_ret
        exact ⟨ret_bool Hn.out.symm, hbw⟩
  · have hb : ((L.length : Int) != (M.length : Int)) = true := by rw [bne_iff_ne]; omega
    have Hn : Hid (eqF sameP L M = false) := Lib.hid (eqF_len h0)
    clear h0
    go_enter Tryz.func43, Tryz.ntmps43
    go_wp2
    go_ret
    exact ⟨ret_bool Hn.out.symm, Below.refl _ _⟩

end Go.Proofs.YthnaipgdjbaebaaGreat

/- The document's Same. -/
namespace Go.Proofs.YthnaipgdjbaebaaGreat
open Go.RowKit
set_option linter.unusedVariables false

set_option maxRecDepth 100000 in
set_option maxHeartbeats 4000000 in
theorem refGSame_any (g h : Gv) (A A' : Option Addr) (c c' : Nat) (D D' : Option Addr) (d d' : Nat) (B : Nat) (w : World) (hg : GR w B g A A') (hh : GR w B h D D') (hB : B ≤ w.heap.size) :
    Calls Tryz.prog 21 #[gagg g A c A' c', gagg h D d D' d'] w (Says (sameG g h) w) := by
  obtain ⟨G1, G2, l1, l2⟩ := hg
  obtain ⟨K1, K2, m1, m2⟩ := hh
  obtain ⟨N, R⟩ := g
  obtain ⟨M, T⟩ := h
  simp only [gagg] at G1 G2 K1 K2 l1 l2 m1 m2 ⊢
  obtain ⟨wo, hwo⟩ : ∃ z, z = (w.alloc (.cells #[.slice A N.length c, .slice A' R.length c'] 27)).alloc (.cells #[.slice D M.length d, .slice D' T.length d'] 27) := ⟨_, rfl⟩
  have hbo : Below w.heap.size w wo := by rw [hwo]; exact ((Below.refl _ _).alloc (Nat.le_refl _) _).alloc (by simp) _
  have Bx : Blk wo w.heap.size 27 #[.slice A N.length c, .slice A' R.length c'] := by subst hwo; exact (Blk.new _ _ _).alloc _
  have By : Blk wo (w.heap.size + 1) 27 #[.slice D M.length d, .slice D' T.length d'] := by
    subst hwo
    have := Blk.new (w.alloc (.cells #[.slice A N.length c, .slice A' R.length c'] 27)) 27 #[.slice D M.length d, .slice D' T.length d']
    simpa using this
  have hlx := Bx.lt
  have hly := By.lt
  have H1 := Lib.hid G1
  have H2 := Lib.hid G2
  have J1 := Lib.hid K1
  have J2 := Lib.hid K2
  have HF : Hid (∀ w', Below wo.heap.size wo w' → (w'.cell? ⟨w.heap.size, 0, none⟩ = some (.slice A N.length c) ∧ w'.cell? ⟨w.heap.size, 1, none⟩ = some (.slice A' R.length c')) ∧ w'.cell? ⟨w.heap.size + 1, 0, none⟩ = some (.slice D M.length d) ∧ w'.cell? ⟨w.heap.size + 1, 1, none⟩ = some (.slice D' T.length d')) := Lib.hid fun w' hb => by
    have b := Bx.below hb hlx
    have b2 := By.below hb hly
    exact ⟨⟨by rw [b.cell]; rfl, by rw [b.cell]; rfl⟩, by rw [b2.cell]; rfl, by rw [b2.cell]; rfl⟩
  have HB : Hid (∀ w', Below wo.heap.size wo w' → Below w.heap.size w w') := Lib.hid fun w' hb' => hbo.trans (hb'.mono hbo.size)
  have hso := hbo.size
  have Hwo := Lib.hid hwo
  obtain ⟨⟨c0, c1⟩, e0, e1⟩ := HF.out wo (Below.refl _ _)
  clear G1 G2 K1 K2 hbo Bx By hwo
  by_cases n0 : N.length = M.length
  case neg =>
    have f0 : ((N.length : Int) != (M.length : Int)) = true := by rw [bne_iff_ne]; omega
    have Hn : Hid (sameG ⟨N, R⟩ ⟨M, T⟩ = false) := Lib.hid (by simp [sameG, eqF_len n0])
    clear n0
    go_enter Tryz.func21, Tryz.ntmps21
    go_wp2
    go_ret
    rw [← Hwo.out]
    exact ⟨ret_bool Hn.out.symm, HB.out _ (Below.refl _ _)⟩
  have f0 : ((N.length : Int) != (M.length : Int)) = false := by simp [n0]
  by_cases n1 : R.length = T.length
  case neg =>
    have f1 : ((R.length : Int) != (T.length : Int)) = true := by rw [bne_iff_ne]; omega
    have Hn : Hid (sameG ⟨N, R⟩ ⟨M, T⟩ = false) := Lib.hid (by simp [sameG, eqF_len n1])
    clear n0 n1
    go_enter Tryz.func21, Tryz.ntmps21
    go_wp2
    go_ret
    rw [← Hwo.out]
    exact ⟨ret_bool Hn.out.symm, HB.out _ (Below.refl _ _)⟩
  have f1 : ((R.length : Int) != (T.length : Int)) = false := by simp [n1]
  have N0 := Lib.hid n0
  have N1 := Lib.hid n1
  have k1 : N.length ≤ M.length := by omega
  have k2 : R.length ≤ T.length := by omega
  clear n0 n1
  go_enter Tryz.func21, Tryz.ntmps21
  go_wp2
  rw [← Hwo.out]
  go_loopw [5] (fun i wr => ∃ k : Nat, k ≤ N.length ∧ i = .int .i64 k ∧ (∀ j a b, j < k → N[j]? = some a → M[j]? = some b → sameN a b = true) ∧ Below wo.heap.size wo wr) (fun i _ => N.length - (intOf i).toNat)
  case atStart => exact ⟨0, Nat.zero_le _, rfl, fun j a b hj => by omega, Below.refl _ _⟩
  case round =>
    obtain ⟨k, hk, rfl, heq, hbw⟩ := hrel
    clear c0 c1 e0 e1
    obtain ⟨⟨c0, c1⟩, e0, e1⟩ := HF.out wr hbw
    have hww := HB.out wr hbw
    have hsz := hww.size
    by_cases hlt : k < N.length
    · have hlt' : k < M.length := by omega
      obtain ⟨x, hx⟩ : ∃ x, N[k]? = some x := ⟨_, List.getElem?_eq_getElem hlt⟩
      obtain ⟨y, hy⟩ : ∃ y, M[k]? = some y := ⟨_, List.getElem?_eq_getElem hlt'⟩
      obtain ⟨b, off, rfl, hbB, A1, c1', A2, c2, hc, hr1, hr2, -, hs1, hs2, -⟩ := (NodesR.below H1.out (hww.mono hB)) k _ hx
      obtain ⟨b', off', rfl, hbB', A3, c3, A4, c4, hc', hr3, hr4, -, hs1', hs2', -⟩ := (NodesR.below J1.out (hww.mono hB)) k _ hy
      obtain ⟨q0, q1, q2⟩ := node_cells hc
      obtain ⟨s0, s1, s2⟩ := node_cells hc'
      have hi0 : (0 : Int) ≤ (k : Int) := by omega
      have hi1 : (k : Int) < (M.length : Int) := by omega
      have hi2 : (k : Int) < (N.length : Int) := by omega
      have ne1 : b ≠ wr.heap.size := by omega
      have ne2 : b ≠ wr.heap.size + 1 := by omega
      have ne3 : b' ≠ wr.heap.size := by omega
      have ne4 : b' ≠ wr.heap.size + 1 := by omega
      have hlx' : w.heap.size < wr.heap.size := Nat.lt_of_lt_of_le hlx hbw.size
      have hly' : w.heap.size + 1 < wr.heap.size := Nat.lt_of_lt_of_le hly hbw.size
      have ne5 : w.heap.size ≠ wr.heap.size := by omega
      have ne6 : w.heap.size ≠ wr.heap.size + 1 := by omega
      have ne7 : w.heap.size + 1 ≠ wr.heap.size := by omega
      have ne8 : w.heap.size + 1 ≠ wr.heap.size + 1 := by omega
      obtain ⟨xi, xl, xp⟩ := x
      obtain ⟨yi, yl, yp⟩ := y
      simp only at q0 q1 q2 s0 s1 s2 hr1 hr2 hr3 hr4 hs1 hs2 hs1' hs2'
      have HT : Hid (∀ W, Below wr.heap.size wr W → Calls Tryz.prog 29 #[.slice A1 xl.length c1', .slice A3 yl.length c3] W (SameB (decide (xl = yl)) W)) := Lib.hid fun W hb => refSameTexts_any A1 A3 c1' c3 B B xl yl W (hr1.below (hb.mono (by omega))) (hr3.below (hb.mono (by omega))) hs1 hs1'
      have HP : Hid (∀ W, Below wr.heap.size wr W → Calls Tryz.prog 43 #[.slice A2 xp.length c2, .slice A4 yp.length c4] W (Says (eqF sameP xp yp) W)) := Lib.hid fun W hb => refSameProps_any A2 A4 c2 c4 B xp yp W (PropsR.below hr2 (hb.mono (by omega))) (PropsR.below hr4 (hb.mono (by omega))) (by have := hb.size; omega) hs2 hs2'
      obtain ⟨E1, hE1⟩ : ∃ e, e = decide (xl = yl) := ⟨_, rfl⟩
      obtain ⟨E2, hE2⟩ : ∃ e, e = eqF sameP xp yp := ⟨_, rfl⟩
      rw [← hE1] at HT
      rw [← hE2] at HP
      have HS : Hid (sameN ⟨xi, xl, xp⟩ ⟨yi, yl, yp⟩ = (decide (xi = yi) && (E1 && E2))) := Lib.hid (by rw [hE1, hE2]; rfl)
      have HNo : Hid (sameN ⟨xi, xl, xp⟩ ⟨yi, yl, yp⟩ = false → sameG ⟨N, R⟩ ⟨M, T⟩ = false) := Lib.hid fun h => by simp [sameG, eqF_no hx hy h]
      have Hx := Lib.hid hx
      have Hy := Lib.hid hy
      have Heq := Lib.hid heq
      have HW : Hid (∀ W, Below wr.heap.size wr W → Below wo.heap.size wo W) := Lib.hid fun W hb => hbw.trans (hb.mono hbw.size)
      clear hc hc' hr1 hr2 hr3 hr4 hx hy heq hE1 hE2
      by_cases hid : xi = yi
      · have fi : (xi != yi) = false := by simp [hid]
        have HS1 : Hid (sameN ⟨xi, xl, xp⟩ ⟨yi, yl, yp⟩ = (E1 && E2)) := Lib.hid (by rw [HS.out, hid]; simp)
        clear hid
        go_wp2
        go_region_held3 (fun w' => w'.cell? ⟨w.heap.size, 0, none⟩ = some (.slice (some ⟨b, off, none⟩) N.length c) ∧ w'.cell? ⟨w.heap.size + 1, 0, none⟩ = some (.slice (some ⟨b', off', none⟩) M.length d) ∧ w'.cell? ⟨b, off + k * 3, none⟩ = some (.int .i64 xi) ∧ w'.cell? ⟨b, off + k * 3 + 1, none⟩ = some (.slice A1 xl.length c1') ∧ w'.cell? ⟨b, off + k * 3 + 2, none⟩ = some (.slice A2 xp.length c2) ∧ w'.cell? ⟨b', off' + k * 3, none⟩ = some (.int .i64 yi) ∧ w'.cell? ⟨b', off' + k * 3 + 1, none⟩ = some (.slice A3 yl.length c3) ∧ w'.cell? ⟨b', off' + k * 3 + 2, none⟩ = some (.slice A4 yp.length c4)) (go_keep) (fail)
        · obtain ⟨W, hW⟩ : ∃ z, z = ((wr.alloc (.cells #[.int .i64 xi, .slice A1 xl.length c1', .slice A2 xp.length c2] 40)).alloc (.cells #[.int .i64 yi, .slice A3 yl.length c3, .slice A4 yp.length c4] 40)).drew := ⟨_, rfl⟩
          rw [← hW]
          have hbW : Below wr.heap.size wr W := by
            rw [hW]
            have h := ((Below.refl wr.heap.size wr).alloc (Nat.le_refl _) (.cells #[.int .i64 xi, .slice A1 xl.length c1', .slice A2 xp.length c2] 40)).alloc (by simp) (.cells #[.int .i64 yi, .slice A3 yl.length c3, .slice A4 yp.length c4] 40)
            exact ⟨h.os, h.tape, h.output, h.size, h.block⟩
          have BX : Blk W wr.heap.size 40 #[.int .i64 xi, .slice A1 xl.length c1', .slice A2 xp.length c2] := by rw [hW]; exact (Blk.new wr 40 #[.int .i64 xi, .slice A1 xl.length c1', .slice A2 xp.length c2]).alloc _
          have BY : Blk W (wr.heap.size + 1) 40 #[.int .i64 yi, .slice A3 yl.length c3, .slice A4 yp.length c4] := by
            rw [hW]
            have h := Blk.new (wr.alloc (.cells #[.int .i64 xi, .slice A1 xl.length c1', .slice A2 xp.length c2] 40)) 40 #[.int .i64 yi, .slice A3 yl.length c3, .slice A4 yp.length c4]
            have e : (wr.alloc (.cells #[.int .i64 xi, .slice A1 xl.length c1', .slice A2 xp.length c2] 40)).heap.size = wr.heap.size + 1 := by simp
            rw [e] at h
            exact h
          have t0 : W.cell? ⟨wr.heap.size, 0, none⟩ = some (.int .i64 xi) := by rw [BX.cell 0]; rfl
          have t1 : W.cell? ⟨wr.heap.size, 1, none⟩ = some (.slice A1 xl.length c1') := by rw [BX.cell 1]; rfl
          have t2 : W.cell? ⟨wr.heap.size, 2, none⟩ = some (.slice A2 xp.length c2) := by rw [BX.cell 2]; rfl
          have u0 : W.cell? ⟨wr.heap.size + 1, 0, none⟩ = some (.int .i64 yi) := by rw [BY.cell 0]; rfl
          have u1 : W.cell? ⟨wr.heap.size + 1, 1, none⟩ = some (.slice A3 yl.length c3) := by rw [BY.cell 1]; rfl
          have u2 : W.cell? ⟨wr.heap.size + 1, 2, none⟩ = some (.slice A4 yp.length c4) := by rw [BY.cell 2]; rfl
          clear hW BX BY q0 q1 q2 s0 s1 s2 c0 c1 e0 e1
          go_wp2_with fail
          refine (HT.out W hbW).mono ?_
          rintro e w8 ⟨rfl, n8, rfl⟩
          have hb8 : Below wr.heap.size wr (W.drewN n8) := below_drewN hbW n8
          cases E1
          · have Hn : Hid (sameG ⟨N, R⟩ ⟨M, T⟩ = false) := Lib.hid (HNo.out HS1.out)
            go_wp2
            go_ret
            exact ⟨ret_bool Hn.out.symm, HB.out _ (HW.out _ hb8)⟩
          · go_wp2_with fail
            refine (HP.out _ hb8).mono ?_
            rintro e w9 ⟨rfl, hb9⟩
            have hb10 := HW.out _ (hb8.trans (hb9.mono hb8.size))
            clear t0 t1 t2 u0 u1 u2 hb9
            cases E2
            · have Hn : Hid (sameG ⟨N, R⟩ ⟨M, T⟩ = false) := Lib.hid (HNo.out HS1.out)
              go_wp2
              go_ret
              exact ⟨ret_bool Hn.out.symm, HB.out _ hb10⟩
            · go_wp2
              go_roundw
              case rel =>
                refine ⟨k + 1, by omega, by go_num, fun j a b hj ha hb => ?_, hb10⟩
                rcases Nat.lt_or_ge j k with hj' | hj'
                · exact Heq.out j a b hj' ha hb
                · obtain rfl : j = k := by omega
                  have e1 := Hx.out
                  have e2 := Hy.out
                  rw [ha] at e1
                  rw [hb] at e2
                  injection e1 with e1
                  injection e2 with e2
                  rw [e1, e2]
                  exact HS1.out
              case measure => simp [intOf]; omega
        · obtain ⟨W, hW⟩ : ∃ z, z = ((wr.alloc (.cells #[.int .i64 yi, .slice A3 yl.length c3, .slice A4 yp.length c4] 40)).alloc (.cells #[.int .i64 xi, .slice A1 xl.length c1', .slice A2 xp.length c2] 40)).drew := ⟨_, rfl⟩
          rw [← hW]
          have hbW : Below wr.heap.size wr W := by
            rw [hW]
            have h := ((Below.refl wr.heap.size wr).alloc (Nat.le_refl _) (.cells #[.int .i64 yi, .slice A3 yl.length c3, .slice A4 yp.length c4] 40)).alloc (by simp) (.cells #[.int .i64 xi, .slice A1 xl.length c1', .slice A2 xp.length c2] 40)
            exact ⟨h.os, h.tape, h.output, h.size, h.block⟩
          have BY : Blk W wr.heap.size 40 #[.int .i64 yi, .slice A3 yl.length c3, .slice A4 yp.length c4] := by rw [hW]; exact (Blk.new wr 40 #[.int .i64 yi, .slice A3 yl.length c3, .slice A4 yp.length c4]).alloc _
          have BX : Blk W (wr.heap.size + 1) 40 #[.int .i64 xi, .slice A1 xl.length c1', .slice A2 xp.length c2] := by
            rw [hW]
            have h := Blk.new (wr.alloc (.cells #[.int .i64 yi, .slice A3 yl.length c3, .slice A4 yp.length c4] 40)) 40 #[.int .i64 xi, .slice A1 xl.length c1', .slice A2 xp.length c2]
            have e : (wr.alloc (.cells #[.int .i64 yi, .slice A3 yl.length c3, .slice A4 yp.length c4] 40)).heap.size = wr.heap.size + 1 := by simp
            rw [e] at h
            exact h
          have t0 : W.cell? ⟨wr.heap.size + 1, 0, none⟩ = some (.int .i64 xi) := by rw [BX.cell 0]; rfl
          have t1 : W.cell? ⟨wr.heap.size + 1, 1, none⟩ = some (.slice A1 xl.length c1') := by rw [BX.cell 1]; rfl
          have t2 : W.cell? ⟨wr.heap.size + 1, 2, none⟩ = some (.slice A2 xp.length c2) := by rw [BX.cell 2]; rfl
          have u0 : W.cell? ⟨wr.heap.size, 0, none⟩ = some (.int .i64 yi) := by rw [BY.cell 0]; rfl
          have u1 : W.cell? ⟨wr.heap.size, 1, none⟩ = some (.slice A3 yl.length c3) := by rw [BY.cell 1]; rfl
          have u2 : W.cell? ⟨wr.heap.size, 2, none⟩ = some (.slice A4 yp.length c4) := by rw [BY.cell 2]; rfl
          clear hW BX BY q0 q1 q2 s0 s1 s2 c0 c1 e0 e1
          go_wp2_with fail
          refine (HT.out W hbW).mono ?_
          rintro e w8 ⟨rfl, n8, rfl⟩
          have hb8 : Below wr.heap.size wr (W.drewN n8) := below_drewN hbW n8
          cases E1
          · have Hn : Hid (sameG ⟨N, R⟩ ⟨M, T⟩ = false) := Lib.hid (HNo.out HS1.out)
            go_wp2
            go_ret
            exact ⟨ret_bool Hn.out.symm, HB.out _ (HW.out _ hb8)⟩
          · go_wp2_with fail
            refine (HP.out _ hb8).mono ?_
            rintro e w9 ⟨rfl, hb9⟩
            have hb10 := HW.out _ (hb8.trans (hb9.mono hb8.size))
            clear t0 t1 t2 u0 u1 u2 hb9
            cases E2
            · have Hn : Hid (sameG ⟨N, R⟩ ⟨M, T⟩ = false) := Lib.hid (HNo.out HS1.out)
              go_wp2
              go_ret
              exact ⟨ret_bool Hn.out.symm, HB.out _ hb10⟩
            · go_wp2
              go_roundw
              case rel =>
                refine ⟨k + 1, by omega, by go_num, fun j a b hj ha hb => ?_, hb10⟩
                rcases Nat.lt_or_ge j k with hj' | hj'
                · exact Heq.out j a b hj' ha hb
                · obtain rfl : j = k := by omega
                  have e1 := Hx.out
                  have e2 := Hy.out
                  rw [ha] at e1
                  rw [hb] at e2
                  injection e1 with e1
                  injection e2 with e2
                  rw [e1, e2]
                  exact HS1.out
              case measure => simp [intOf]; omega
      · have fi : (xi != yi) = true := by simpa using hid
        have Hn : Hid (sameG ⟨N, R⟩ ⟨M, T⟩ = false) := Lib.hid (HNo.out (by rw [HS.out]; simp [hid]))
        clear hid
        go_wp2
        go_region_held3 (fun w' => w'.cell? ⟨w.heap.size, 0, none⟩ = some (.slice (some ⟨b, off, none⟩) N.length c) ∧ w'.cell? ⟨w.heap.size + 1, 0, none⟩ = some (.slice (some ⟨b', off', none⟩) M.length d) ∧ w'.cell? ⟨b, off + k * 3, none⟩ = some (.int .i64 xi) ∧ w'.cell? ⟨b, off + k * 3 + 1, none⟩ = some (.slice A1 xl.length c1') ∧ w'.cell? ⟨b, off + k * 3 + 2, none⟩ = some (.slice A2 xp.length c2) ∧ w'.cell? ⟨b', off' + k * 3, none⟩ = some (.int .i64 yi) ∧ w'.cell? ⟨b', off' + k * 3 + 1, none⟩ = some (.slice A3 yl.length c3) ∧ w'.cell? ⟨b', off' + k * 3 + 2, none⟩ = some (.slice A4 yp.length c4)) (go_keep) (fail)
        · obtain ⟨W, hW⟩ : ∃ z, z = ((wr.alloc (.cells #[.int .i64 xi, .slice A1 xl.length c1', .slice A2 xp.length c2] 40)).alloc (.cells #[.int .i64 yi, .slice A3 yl.length c3, .slice A4 yp.length c4] 40)).drew := ⟨_, rfl⟩
          rw [← hW]
          have hbW : Below wr.heap.size wr W := by
            rw [hW]
            have h := ((Below.refl wr.heap.size wr).alloc (Nat.le_refl _) (.cells #[.int .i64 xi, .slice A1 xl.length c1', .slice A2 xp.length c2] 40)).alloc (by simp) (.cells #[.int .i64 yi, .slice A3 yl.length c3, .slice A4 yp.length c4] 40)
            exact ⟨h.os, h.tape, h.output, h.size, h.block⟩
          have BX : Blk W wr.heap.size 40 #[.int .i64 xi, .slice A1 xl.length c1', .slice A2 xp.length c2] := by rw [hW]; exact (Blk.new wr 40 #[.int .i64 xi, .slice A1 xl.length c1', .slice A2 xp.length c2]).alloc _
          have BY : Blk W (wr.heap.size + 1) 40 #[.int .i64 yi, .slice A3 yl.length c3, .slice A4 yp.length c4] := by
            rw [hW]
            have h := Blk.new (wr.alloc (.cells #[.int .i64 xi, .slice A1 xl.length c1', .slice A2 xp.length c2] 40)) 40 #[.int .i64 yi, .slice A3 yl.length c3, .slice A4 yp.length c4]
            have e : (wr.alloc (.cells #[.int .i64 xi, .slice A1 xl.length c1', .slice A2 xp.length c2] 40)).heap.size = wr.heap.size + 1 := by simp
            rw [e] at h
            exact h
          have t0 : W.cell? ⟨wr.heap.size, 0, none⟩ = some (.int .i64 xi) := by rw [BX.cell 0]; rfl
          have u0 : W.cell? ⟨wr.heap.size + 1, 0, none⟩ = some (.int .i64 yi) := by rw [BY.cell 0]; rfl
          clear hW BX BY q0 q1 q2 s0 s1 s2 c0 c1 e0 e1
          go_wp2
          go_ret
          exact ⟨ret_bool Hn.out.symm, HB.out _ (HW.out _ hbW)⟩
        · obtain ⟨W, hW⟩ : ∃ z, z = ((wr.alloc (.cells #[.int .i64 yi, .slice A3 yl.length c3, .slice A4 yp.length c4] 40)).alloc (.cells #[.int .i64 xi, .slice A1 xl.length c1', .slice A2 xp.length c2] 40)).drew := ⟨_, rfl⟩
          rw [← hW]
          have hbW : Below wr.heap.size wr W := by
            rw [hW]
            have h := ((Below.refl wr.heap.size wr).alloc (Nat.le_refl _) (.cells #[.int .i64 yi, .slice A3 yl.length c3, .slice A4 yp.length c4] 40)).alloc (by simp) (.cells #[.int .i64 xi, .slice A1 xl.length c1', .slice A2 xp.length c2] 40)
            exact ⟨h.os, h.tape, h.output, h.size, h.block⟩
          have BY : Blk W wr.heap.size 40 #[.int .i64 yi, .slice A3 yl.length c3, .slice A4 yp.length c4] := by rw [hW]; exact (Blk.new wr 40 #[.int .i64 yi, .slice A3 yl.length c3, .slice A4 yp.length c4]).alloc _
          have BX : Blk W (wr.heap.size + 1) 40 #[.int .i64 xi, .slice A1 xl.length c1', .slice A2 xp.length c2] := by
            rw [hW]
            have h := Blk.new (wr.alloc (.cells #[.int .i64 yi, .slice A3 yl.length c3, .slice A4 yp.length c4] 40)) 40 #[.int .i64 xi, .slice A1 xl.length c1', .slice A2 xp.length c2]
            have e : (wr.alloc (.cells #[.int .i64 yi, .slice A3 yl.length c3, .slice A4 yp.length c4] 40)).heap.size = wr.heap.size + 1 := by simp
            rw [e] at h
            exact h
          have t0 : W.cell? ⟨wr.heap.size + 1, 0, none⟩ = some (.int .i64 xi) := by rw [BX.cell 0]; rfl
          have u0 : W.cell? ⟨wr.heap.size, 0, none⟩ = some (.int .i64 yi) := by rw [BY.cell 0]; rfl
          clear hW BX BY q0 q1 q2 s0 s1 s2 c0 c1 e0 e1
          go_wp2
          go_ret
          exact ⟨ret_bool Hn.out.symm, HB.out _ (HW.out _ hbW)⟩
    · have HE1 : Hid (eqF sameN N M = true) := Lib.hid (eqF_yes N0.out fun j a b ha hb => heq j a b (by have := (List.getElem?_eq_some_iff.1 ha).1; omega) ha hb)
      obtain rfl : k = N.length := by omega
      obtain ⟨wm, hwm⟩ : ∃ x : World, x = wr := ⟨_, rfl⟩
      rw [← hwm]
      rw [← hwm] at hbw c0 c1 e0 e1
      clear heq hwm hww hsz
      go_wp2
      clear c0 c1 e0 e1
      go_loopw [8] (fun i wr => ∃ k : Nat, k ≤ R.length ∧ i = .int .i64 k ∧ (∀ j a b, j < k → R[j]? = some a → T[j]? = some b → sameR a b = true) ∧ Below wo.heap.size wo wr) (fun i _ => R.length - (intOf i).toNat)
      case atStart => exact ⟨0, Nat.zero_le _, rfl, fun j a b hj => by omega, hbw⟩
      case round =>
        obtain ⟨k, hk, rfl, heq, hbw⟩ := hrel
        obtain ⟨⟨c0, c1⟩, e0, e1⟩ := HF.out wr hbw
        have hww := HB.out wr hbw
        have hsz := hww.size
        by_cases hlt : k < R.length
        · have hlt' : k < T.length := by omega
          obtain ⟨x, hx⟩ : ∃ x, R[k]? = some x := ⟨_, List.getElem?_eq_getElem hlt⟩
          obtain ⟨y, hy⟩ : ∃ y, T[k]? = some y := ⟨_, List.getElem?_eq_getElem hlt'⟩
          obtain ⟨b, off, rfl, hbB, A2, c2, hc, hr2, -, -, -, -, hs2⟩ := (RelsR.below H2.out (hww.mono hB)) k _ hx
          obtain ⟨b', off', rfl, hbB', A4, c4, hc', hr4, -, -, -, -, hs2'⟩ := (RelsR.below J2.out (hww.mono hB)) k _ hy
          obtain ⟨q0, q1, q2, q3, q4⟩ := rel_cells hc
          obtain ⟨s0, s1, s2, s3, s4⟩ := rel_cells hc'
          have hi0 : (0 : Int) ≤ (k : Int) := by omega
          have hi1 : (k : Int) < (T.length : Int) := by omega
          have hi2 : (k : Int) < (R.length : Int) := by omega
          have ne1 : b ≠ wr.heap.size := by omega
          have ne2 : b ≠ wr.heap.size + 1 := by omega
          have ne3 : b' ≠ wr.heap.size := by omega
          have ne4 : b' ≠ wr.heap.size + 1 := by omega
          have hlx' : w.heap.size < wr.heap.size := Nat.lt_of_lt_of_le hlx hbw.size
          have hly' : w.heap.size + 1 < wr.heap.size := Nat.lt_of_lt_of_le hly hbw.size
          have ne5 : w.heap.size ≠ wr.heap.size := by omega
          have ne6 : w.heap.size ≠ wr.heap.size + 1 := by omega
          have ne7 : w.heap.size + 1 ≠ wr.heap.size := by omega
          have ne8 : w.heap.size + 1 ≠ wr.heap.size + 1 := by omega
          obtain ⟨xi, xt, xs, xd, xp⟩ := x
          obtain ⟨yi, yt, ys, yd, yp⟩ := y
          simp only at q0 q1 q2 q3 q4 s0 s1 s2 s3 s4 hr2 hr4 hs2 hs2'
          have HP : Hid (∀ W, Below wr.heap.size wr W → Calls Tryz.prog 43 #[.slice A2 xp.length c2, .slice A4 yp.length c4] W (Says (eqF sameP xp yp) W)) := Lib.hid fun W hb => refSameProps_any A2 A4 c2 c4 B xp yp W (PropsR.below hr2 (hb.mono (by omega))) (PropsR.below hr4 (hb.mono (by omega))) (by have := hb.size; omega) hs2 hs2'
          obtain ⟨E2, hE2⟩ : ∃ e, e = eqF sameP xp yp := ⟨_, rfl⟩
          rw [← hE2] at HP
          have HS : Hid (sameR ⟨xi, xt, xs, xd, xp⟩ ⟨yi, yt, ys, yd, yp⟩ = (decide (xi = yi) && (decide (xt = yt) && (decide (xs = ys) && (decide (xd = yd) && E2))))) := Lib.hid (by rw [hE2]; rfl)
          have HNo : Hid (sameR ⟨xi, xt, xs, xd, xp⟩ ⟨yi, yt, ys, yd, yp⟩ = false → sameG ⟨N, R⟩ ⟨M, T⟩ = false) := Lib.hid fun h => by simp [sameG, eqF_no hx hy h]
          have Hx := Lib.hid hx
          have Hy := Lib.hid hy
          have Heq := Lib.hid heq
          have HW : Hid (∀ W, Below wr.heap.size wr W → Below wo.heap.size wo W) := Lib.hid fun W hb => hbw.trans (hb.mono hbw.size)
          clear hc hc' hr2 hr4 hx hy heq hE2
          by_cases hq0 : xi = yi
          case neg =>
            have ff0 : ((xi != yi)) = true := by simpa using hq0
            have Hn : Hid (sameG ⟨N, R⟩ ⟨M, T⟩ = false) := Lib.hid (HNo.out (by rw [HS.out]; simp [hq0]))
            clear hq0 HP
            go_wp2
            go_region_held3 (fun w' => w'.cell? ⟨w.heap.size, 1, none⟩ = some (.slice (some ⟨b, off, none⟩) R.length c') ∧ w'.cell? ⟨w.heap.size + 1, 1, none⟩ = some (.slice (some ⟨b', off', none⟩) T.length d') ∧ w'.cell? ⟨b, off + k * 5, none⟩ = some (.int .i64 xi) ∧ w'.cell? ⟨b, off + k * 5 + 1, none⟩ = some (.string xt) ∧ w'.cell? ⟨b, off + k * 5 + 2, none⟩ = some (.int .i64 xs) ∧ w'.cell? ⟨b, off + k * 5 + 3, none⟩ = some (.int .i64 xd) ∧ w'.cell? ⟨b, off + k * 5 + 4, none⟩ = some (.slice A2 xp.length c2) ∧ w'.cell? ⟨b', off' + k * 5, none⟩ = some (.int .i64 yi) ∧ w'.cell? ⟨b', off' + k * 5 + 1, none⟩ = some (.string yt) ∧ w'.cell? ⟨b', off' + k * 5 + 2, none⟩ = some (.int .i64 ys) ∧ w'.cell? ⟨b', off' + k * 5 + 3, none⟩ = some (.int .i64 yd) ∧ w'.cell? ⟨b', off' + k * 5 + 4, none⟩ = some (.slice A4 yp.length c4)) (go_keep) (fail)
            · obtain ⟨W, hW⟩ : ∃ z, z = ((wr.alloc (.cells #[.int .i64 xi, .string xt, .int .i64 xs, .int .i64 xd, .slice A2 xp.length c2] 47)).alloc (.cells #[.int .i64 yi, .string yt, .int .i64 ys, .int .i64 yd, .slice A4 yp.length c4] 47)).drew := ⟨_, rfl⟩
              rw [← hW]
              have hbW : Below wr.heap.size wr W := by
                rw [hW]
                have h := ((Below.refl wr.heap.size wr).alloc (Nat.le_refl _) (.cells #[.int .i64 xi, .string xt, .int .i64 xs, .int .i64 xd, .slice A2 xp.length c2] 47)).alloc (by simp) (.cells #[.int .i64 yi, .string yt, .int .i64 ys, .int .i64 yd, .slice A4 yp.length c4] 47)
                exact ⟨h.os, h.tape, h.output, h.size, h.block⟩
              have BX : Blk W wr.heap.size 47 #[.int .i64 xi, .string xt, .int .i64 xs, .int .i64 xd, .slice A2 xp.length c2] := by rw [hW]; exact (Blk.new wr 47 #[.int .i64 xi, .string xt, .int .i64 xs, .int .i64 xd, .slice A2 xp.length c2]).alloc _
              have BY : Blk W (wr.heap.size + 1) 47 #[.int .i64 yi, .string yt, .int .i64 ys, .int .i64 yd, .slice A4 yp.length c4] := by
                rw [hW]
                have h := Blk.new (wr.alloc (.cells #[.int .i64 xi, .string xt, .int .i64 xs, .int .i64 xd, .slice A2 xp.length c2] 47)) 47 #[.int .i64 yi, .string yt, .int .i64 ys, .int .i64 yd, .slice A4 yp.length c4]
                have e : (wr.alloc (.cells #[.int .i64 xi, .string xt, .int .i64 xs, .int .i64 xd, .slice A2 xp.length c2] 47)).heap.size = wr.heap.size + 1 := by simp
                rw [e] at h
                exact h
              have t0 : W.cell? ⟨wr.heap.size, 0, none⟩ = some (.int .i64 xi) := by rw [BX.cell 0]; rfl
              have t1 : W.cell? ⟨wr.heap.size, 1, none⟩ = some (.string xt) := by rw [BX.cell 1]; rfl
              have t2 : W.cell? ⟨wr.heap.size, 2, none⟩ = some (.int .i64 xs) := by rw [BX.cell 2]; rfl
              have t3 : W.cell? ⟨wr.heap.size, 3, none⟩ = some (.int .i64 xd) := by rw [BX.cell 3]; rfl
              have t4 : W.cell? ⟨wr.heap.size, 4, none⟩ = some (.slice A2 xp.length c2) := by rw [BX.cell 4]; rfl
              have u0 : W.cell? ⟨wr.heap.size + 1, 0, none⟩ = some (.int .i64 yi) := by rw [BY.cell 0]; rfl
              have u1 : W.cell? ⟨wr.heap.size + 1, 1, none⟩ = some (.string yt) := by rw [BY.cell 1]; rfl
              have u2 : W.cell? ⟨wr.heap.size + 1, 2, none⟩ = some (.int .i64 ys) := by rw [BY.cell 2]; rfl
              have u3 : W.cell? ⟨wr.heap.size + 1, 3, none⟩ = some (.int .i64 yd) := by rw [BY.cell 3]; rfl
              have u4 : W.cell? ⟨wr.heap.size + 1, 4, none⟩ = some (.slice A4 yp.length c4) := by rw [BY.cell 4]; rfl
              clear hW BX BY q0 q1 q2 q3 q4 s0 s1 s2 s3 s4 c0 c1 e0 e1
              go_wp2
              go_ret
              exact ⟨ret_bool Hn.out.symm, HB.out _ (HW.out _ hbW)⟩
            · obtain ⟨W, hW⟩ : ∃ z, z = ((wr.alloc (.cells #[.int .i64 yi, .string yt, .int .i64 ys, .int .i64 yd, .slice A4 yp.length c4] 47)).alloc (.cells #[.int .i64 xi, .string xt, .int .i64 xs, .int .i64 xd, .slice A2 xp.length c2] 47)).drew := ⟨_, rfl⟩
              rw [← hW]
              have hbW : Below wr.heap.size wr W := by
                rw [hW]
                have h := ((Below.refl wr.heap.size wr).alloc (Nat.le_refl _) (.cells #[.int .i64 yi, .string yt, .int .i64 ys, .int .i64 yd, .slice A4 yp.length c4] 47)).alloc (by simp) (.cells #[.int .i64 xi, .string xt, .int .i64 xs, .int .i64 xd, .slice A2 xp.length c2] 47)
                exact ⟨h.os, h.tape, h.output, h.size, h.block⟩
              have BY : Blk W wr.heap.size 47 #[.int .i64 yi, .string yt, .int .i64 ys, .int .i64 yd, .slice A4 yp.length c4] := by rw [hW]; exact (Blk.new wr 47 #[.int .i64 yi, .string yt, .int .i64 ys, .int .i64 yd, .slice A4 yp.length c4]).alloc _
              have BX : Blk W (wr.heap.size + 1) 47 #[.int .i64 xi, .string xt, .int .i64 xs, .int .i64 xd, .slice A2 xp.length c2] := by
                rw [hW]
                have h := Blk.new (wr.alloc (.cells #[.int .i64 yi, .string yt, .int .i64 ys, .int .i64 yd, .slice A4 yp.length c4] 47)) 47 #[.int .i64 xi, .string xt, .int .i64 xs, .int .i64 xd, .slice A2 xp.length c2]
                have e : (wr.alloc (.cells #[.int .i64 yi, .string yt, .int .i64 ys, .int .i64 yd, .slice A4 yp.length c4] 47)).heap.size = wr.heap.size + 1 := by simp
                rw [e] at h
                exact h
              have t0 : W.cell? ⟨wr.heap.size + 1, 0, none⟩ = some (.int .i64 xi) := by rw [BX.cell 0]; rfl
              have t1 : W.cell? ⟨wr.heap.size + 1, 1, none⟩ = some (.string xt) := by rw [BX.cell 1]; rfl
              have t2 : W.cell? ⟨wr.heap.size + 1, 2, none⟩ = some (.int .i64 xs) := by rw [BX.cell 2]; rfl
              have t3 : W.cell? ⟨wr.heap.size + 1, 3, none⟩ = some (.int .i64 xd) := by rw [BX.cell 3]; rfl
              have t4 : W.cell? ⟨wr.heap.size + 1, 4, none⟩ = some (.slice A2 xp.length c2) := by rw [BX.cell 4]; rfl
              have u0 : W.cell? ⟨wr.heap.size, 0, none⟩ = some (.int .i64 yi) := by rw [BY.cell 0]; rfl
              have u1 : W.cell? ⟨wr.heap.size, 1, none⟩ = some (.string yt) := by rw [BY.cell 1]; rfl
              have u2 : W.cell? ⟨wr.heap.size, 2, none⟩ = some (.int .i64 ys) := by rw [BY.cell 2]; rfl
              have u3 : W.cell? ⟨wr.heap.size, 3, none⟩ = some (.int .i64 yd) := by rw [BY.cell 3]; rfl
              have u4 : W.cell? ⟨wr.heap.size, 4, none⟩ = some (.slice A4 yp.length c4) := by rw [BY.cell 4]; rfl
              clear hW BX BY q0 q1 q2 q3 q4 s0 s1 s2 s3 s4 c0 c1 e0 e1
              go_wp2
              go_ret
              exact ⟨ret_bool Hn.out.symm, HB.out _ (HW.out _ hbW)⟩
          have ff0 : ((xi != yi)) = false := by simp [hq0]
          by_cases hq1 : xt = yt
          case neg =>
            have ff1 : (xt.toList == yt.toList) = false := by rw [beq_eq_false_iff_ne]; exact fun e => hq1 (str_inj e)
            have Hn : Hid (sameG ⟨N, R⟩ ⟨M, T⟩ = false) := Lib.hid (HNo.out (by rw [HS.out]; simp [hq0, hq1]))
            clear hq0 hq1 HP
            go_wp2
            go_region_held3 (fun w' => w'.cell? ⟨w.heap.size, 1, none⟩ = some (.slice (some ⟨b, off, none⟩) R.length c') ∧ w'.cell? ⟨w.heap.size + 1, 1, none⟩ = some (.slice (some ⟨b', off', none⟩) T.length d') ∧ w'.cell? ⟨b, off + k * 5, none⟩ = some (.int .i64 xi) ∧ w'.cell? ⟨b, off + k * 5 + 1, none⟩ = some (.string xt) ∧ w'.cell? ⟨b, off + k * 5 + 2, none⟩ = some (.int .i64 xs) ∧ w'.cell? ⟨b, off + k * 5 + 3, none⟩ = some (.int .i64 xd) ∧ w'.cell? ⟨b, off + k * 5 + 4, none⟩ = some (.slice A2 xp.length c2) ∧ w'.cell? ⟨b', off' + k * 5, none⟩ = some (.int .i64 yi) ∧ w'.cell? ⟨b', off' + k * 5 + 1, none⟩ = some (.string yt) ∧ w'.cell? ⟨b', off' + k * 5 + 2, none⟩ = some (.int .i64 ys) ∧ w'.cell? ⟨b', off' + k * 5 + 3, none⟩ = some (.int .i64 yd) ∧ w'.cell? ⟨b', off' + k * 5 + 4, none⟩ = some (.slice A4 yp.length c4)) (go_keep) (fail)
            · obtain ⟨W, hW⟩ : ∃ z, z = ((wr.alloc (.cells #[.int .i64 xi, .string xt, .int .i64 xs, .int .i64 xd, .slice A2 xp.length c2] 47)).alloc (.cells #[.int .i64 yi, .string yt, .int .i64 ys, .int .i64 yd, .slice A4 yp.length c4] 47)).drew := ⟨_, rfl⟩
              rw [← hW]
              have hbW : Below wr.heap.size wr W := by
                rw [hW]
                have h := ((Below.refl wr.heap.size wr).alloc (Nat.le_refl _) (.cells #[.int .i64 xi, .string xt, .int .i64 xs, .int .i64 xd, .slice A2 xp.length c2] 47)).alloc (by simp) (.cells #[.int .i64 yi, .string yt, .int .i64 ys, .int .i64 yd, .slice A4 yp.length c4] 47)
                exact ⟨h.os, h.tape, h.output, h.size, h.block⟩
              have BX : Blk W wr.heap.size 47 #[.int .i64 xi, .string xt, .int .i64 xs, .int .i64 xd, .slice A2 xp.length c2] := by rw [hW]; exact (Blk.new wr 47 #[.int .i64 xi, .string xt, .int .i64 xs, .int .i64 xd, .slice A2 xp.length c2]).alloc _
              have BY : Blk W (wr.heap.size + 1) 47 #[.int .i64 yi, .string yt, .int .i64 ys, .int .i64 yd, .slice A4 yp.length c4] := by
                rw [hW]
                have h := Blk.new (wr.alloc (.cells #[.int .i64 xi, .string xt, .int .i64 xs, .int .i64 xd, .slice A2 xp.length c2] 47)) 47 #[.int .i64 yi, .string yt, .int .i64 ys, .int .i64 yd, .slice A4 yp.length c4]
                have e : (wr.alloc (.cells #[.int .i64 xi, .string xt, .int .i64 xs, .int .i64 xd, .slice A2 xp.length c2] 47)).heap.size = wr.heap.size + 1 := by simp
                rw [e] at h
                exact h
              have t0 : W.cell? ⟨wr.heap.size, 0, none⟩ = some (.int .i64 xi) := by rw [BX.cell 0]; rfl
              have t1 : W.cell? ⟨wr.heap.size, 1, none⟩ = some (.string xt) := by rw [BX.cell 1]; rfl
              have t2 : W.cell? ⟨wr.heap.size, 2, none⟩ = some (.int .i64 xs) := by rw [BX.cell 2]; rfl
              have t3 : W.cell? ⟨wr.heap.size, 3, none⟩ = some (.int .i64 xd) := by rw [BX.cell 3]; rfl
              have t4 : W.cell? ⟨wr.heap.size, 4, none⟩ = some (.slice A2 xp.length c2) := by rw [BX.cell 4]; rfl
              have u0 : W.cell? ⟨wr.heap.size + 1, 0, none⟩ = some (.int .i64 yi) := by rw [BY.cell 0]; rfl
              have u1 : W.cell? ⟨wr.heap.size + 1, 1, none⟩ = some (.string yt) := by rw [BY.cell 1]; rfl
              have u2 : W.cell? ⟨wr.heap.size + 1, 2, none⟩ = some (.int .i64 ys) := by rw [BY.cell 2]; rfl
              have u3 : W.cell? ⟨wr.heap.size + 1, 3, none⟩ = some (.int .i64 yd) := by rw [BY.cell 3]; rfl
              have u4 : W.cell? ⟨wr.heap.size + 1, 4, none⟩ = some (.slice A4 yp.length c4) := by rw [BY.cell 4]; rfl
              clear hW BX BY q0 q1 q2 q3 q4 s0 s1 s2 s3 s4 c0 c1 e0 e1
              go_wp2
              go_ret
              exact ⟨ret_bool Hn.out.symm, HB.out _ (HW.out _ hbW)⟩
            · obtain ⟨W, hW⟩ : ∃ z, z = ((wr.alloc (.cells #[.int .i64 yi, .string yt, .int .i64 ys, .int .i64 yd, .slice A4 yp.length c4] 47)).alloc (.cells #[.int .i64 xi, .string xt, .int .i64 xs, .int .i64 xd, .slice A2 xp.length c2] 47)).drew := ⟨_, rfl⟩
              rw [← hW]
              have hbW : Below wr.heap.size wr W := by
                rw [hW]
                have h := ((Below.refl wr.heap.size wr).alloc (Nat.le_refl _) (.cells #[.int .i64 yi, .string yt, .int .i64 ys, .int .i64 yd, .slice A4 yp.length c4] 47)).alloc (by simp) (.cells #[.int .i64 xi, .string xt, .int .i64 xs, .int .i64 xd, .slice A2 xp.length c2] 47)
                exact ⟨h.os, h.tape, h.output, h.size, h.block⟩
              have BY : Blk W wr.heap.size 47 #[.int .i64 yi, .string yt, .int .i64 ys, .int .i64 yd, .slice A4 yp.length c4] := by rw [hW]; exact (Blk.new wr 47 #[.int .i64 yi, .string yt, .int .i64 ys, .int .i64 yd, .slice A4 yp.length c4]).alloc _
              have BX : Blk W (wr.heap.size + 1) 47 #[.int .i64 xi, .string xt, .int .i64 xs, .int .i64 xd, .slice A2 xp.length c2] := by
                rw [hW]
                have h := Blk.new (wr.alloc (.cells #[.int .i64 yi, .string yt, .int .i64 ys, .int .i64 yd, .slice A4 yp.length c4] 47)) 47 #[.int .i64 xi, .string xt, .int .i64 xs, .int .i64 xd, .slice A2 xp.length c2]
                have e : (wr.alloc (.cells #[.int .i64 yi, .string yt, .int .i64 ys, .int .i64 yd, .slice A4 yp.length c4] 47)).heap.size = wr.heap.size + 1 := by simp
                rw [e] at h
                exact h
              have t0 : W.cell? ⟨wr.heap.size + 1, 0, none⟩ = some (.int .i64 xi) := by rw [BX.cell 0]; rfl
              have t1 : W.cell? ⟨wr.heap.size + 1, 1, none⟩ = some (.string xt) := by rw [BX.cell 1]; rfl
              have t2 : W.cell? ⟨wr.heap.size + 1, 2, none⟩ = some (.int .i64 xs) := by rw [BX.cell 2]; rfl
              have t3 : W.cell? ⟨wr.heap.size + 1, 3, none⟩ = some (.int .i64 xd) := by rw [BX.cell 3]; rfl
              have t4 : W.cell? ⟨wr.heap.size + 1, 4, none⟩ = some (.slice A2 xp.length c2) := by rw [BX.cell 4]; rfl
              have u0 : W.cell? ⟨wr.heap.size, 0, none⟩ = some (.int .i64 yi) := by rw [BY.cell 0]; rfl
              have u1 : W.cell? ⟨wr.heap.size, 1, none⟩ = some (.string yt) := by rw [BY.cell 1]; rfl
              have u2 : W.cell? ⟨wr.heap.size, 2, none⟩ = some (.int .i64 ys) := by rw [BY.cell 2]; rfl
              have u3 : W.cell? ⟨wr.heap.size, 3, none⟩ = some (.int .i64 yd) := by rw [BY.cell 3]; rfl
              have u4 : W.cell? ⟨wr.heap.size, 4, none⟩ = some (.slice A4 yp.length c4) := by rw [BY.cell 4]; rfl
              clear hW BX BY q0 q1 q2 q3 q4 s0 s1 s2 s3 s4 c0 c1 e0 e1
              go_wp2
              go_ret
              exact ⟨ret_bool Hn.out.symm, HB.out _ (HW.out _ hbW)⟩
          have ff1 : (xt.toList == yt.toList) = true := by rw [hq1]; exact beq_self_eq_true _
          by_cases hq2 : xs = ys
          case neg =>
            have ff2 : ((xs != ys)) = true := by simpa using hq2
            have Hn : Hid (sameG ⟨N, R⟩ ⟨M, T⟩ = false) := Lib.hid (HNo.out (by rw [HS.out]; simp [hq0, hq1, hq2]))
            clear hq0 hq1 hq2 HP
            go_wp2
            go_region_held3 (fun w' => w'.cell? ⟨w.heap.size, 1, none⟩ = some (.slice (some ⟨b, off, none⟩) R.length c') ∧ w'.cell? ⟨w.heap.size + 1, 1, none⟩ = some (.slice (some ⟨b', off', none⟩) T.length d') ∧ w'.cell? ⟨b, off + k * 5, none⟩ = some (.int .i64 xi) ∧ w'.cell? ⟨b, off + k * 5 + 1, none⟩ = some (.string xt) ∧ w'.cell? ⟨b, off + k * 5 + 2, none⟩ = some (.int .i64 xs) ∧ w'.cell? ⟨b, off + k * 5 + 3, none⟩ = some (.int .i64 xd) ∧ w'.cell? ⟨b, off + k * 5 + 4, none⟩ = some (.slice A2 xp.length c2) ∧ w'.cell? ⟨b', off' + k * 5, none⟩ = some (.int .i64 yi) ∧ w'.cell? ⟨b', off' + k * 5 + 1, none⟩ = some (.string yt) ∧ w'.cell? ⟨b', off' + k * 5 + 2, none⟩ = some (.int .i64 ys) ∧ w'.cell? ⟨b', off' + k * 5 + 3, none⟩ = some (.int .i64 yd) ∧ w'.cell? ⟨b', off' + k * 5 + 4, none⟩ = some (.slice A4 yp.length c4)) (go_keep) (fail)
            · obtain ⟨W, hW⟩ : ∃ z, z = ((wr.alloc (.cells #[.int .i64 xi, .string xt, .int .i64 xs, .int .i64 xd, .slice A2 xp.length c2] 47)).alloc (.cells #[.int .i64 yi, .string yt, .int .i64 ys, .int .i64 yd, .slice A4 yp.length c4] 47)).drew := ⟨_, rfl⟩
              rw [← hW]
              have hbW : Below wr.heap.size wr W := by
                rw [hW]
                have h := ((Below.refl wr.heap.size wr).alloc (Nat.le_refl _) (.cells #[.int .i64 xi, .string xt, .int .i64 xs, .int .i64 xd, .slice A2 xp.length c2] 47)).alloc (by simp) (.cells #[.int .i64 yi, .string yt, .int .i64 ys, .int .i64 yd, .slice A4 yp.length c4] 47)
                exact ⟨h.os, h.tape, h.output, h.size, h.block⟩
              have BX : Blk W wr.heap.size 47 #[.int .i64 xi, .string xt, .int .i64 xs, .int .i64 xd, .slice A2 xp.length c2] := by rw [hW]; exact (Blk.new wr 47 #[.int .i64 xi, .string xt, .int .i64 xs, .int .i64 xd, .slice A2 xp.length c2]).alloc _
              have BY : Blk W (wr.heap.size + 1) 47 #[.int .i64 yi, .string yt, .int .i64 ys, .int .i64 yd, .slice A4 yp.length c4] := by
                rw [hW]
                have h := Blk.new (wr.alloc (.cells #[.int .i64 xi, .string xt, .int .i64 xs, .int .i64 xd, .slice A2 xp.length c2] 47)) 47 #[.int .i64 yi, .string yt, .int .i64 ys, .int .i64 yd, .slice A4 yp.length c4]
                have e : (wr.alloc (.cells #[.int .i64 xi, .string xt, .int .i64 xs, .int .i64 xd, .slice A2 xp.length c2] 47)).heap.size = wr.heap.size + 1 := by simp
                rw [e] at h
                exact h
              have t0 : W.cell? ⟨wr.heap.size, 0, none⟩ = some (.int .i64 xi) := by rw [BX.cell 0]; rfl
              have t1 : W.cell? ⟨wr.heap.size, 1, none⟩ = some (.string xt) := by rw [BX.cell 1]; rfl
              have t2 : W.cell? ⟨wr.heap.size, 2, none⟩ = some (.int .i64 xs) := by rw [BX.cell 2]; rfl
              have t3 : W.cell? ⟨wr.heap.size, 3, none⟩ = some (.int .i64 xd) := by rw [BX.cell 3]; rfl
              have t4 : W.cell? ⟨wr.heap.size, 4, none⟩ = some (.slice A2 xp.length c2) := by rw [BX.cell 4]; rfl
              have u0 : W.cell? ⟨wr.heap.size + 1, 0, none⟩ = some (.int .i64 yi) := by rw [BY.cell 0]; rfl
              have u1 : W.cell? ⟨wr.heap.size + 1, 1, none⟩ = some (.string yt) := by rw [BY.cell 1]; rfl
              have u2 : W.cell? ⟨wr.heap.size + 1, 2, none⟩ = some (.int .i64 ys) := by rw [BY.cell 2]; rfl
              have u3 : W.cell? ⟨wr.heap.size + 1, 3, none⟩ = some (.int .i64 yd) := by rw [BY.cell 3]; rfl
              have u4 : W.cell? ⟨wr.heap.size + 1, 4, none⟩ = some (.slice A4 yp.length c4) := by rw [BY.cell 4]; rfl
              clear hW BX BY q0 q1 q2 q3 q4 s0 s1 s2 s3 s4 c0 c1 e0 e1
              go_wp2
              go_ret
              exact ⟨ret_bool Hn.out.symm, HB.out _ (HW.out _ hbW)⟩
            · obtain ⟨W, hW⟩ : ∃ z, z = ((wr.alloc (.cells #[.int .i64 yi, .string yt, .int .i64 ys, .int .i64 yd, .slice A4 yp.length c4] 47)).alloc (.cells #[.int .i64 xi, .string xt, .int .i64 xs, .int .i64 xd, .slice A2 xp.length c2] 47)).drew := ⟨_, rfl⟩
              rw [← hW]
              have hbW : Below wr.heap.size wr W := by
                rw [hW]
                have h := ((Below.refl wr.heap.size wr).alloc (Nat.le_refl _) (.cells #[.int .i64 yi, .string yt, .int .i64 ys, .int .i64 yd, .slice A4 yp.length c4] 47)).alloc (by simp) (.cells #[.int .i64 xi, .string xt, .int .i64 xs, .int .i64 xd, .slice A2 xp.length c2] 47)
                exact ⟨h.os, h.tape, h.output, h.size, h.block⟩
              have BY : Blk W wr.heap.size 47 #[.int .i64 yi, .string yt, .int .i64 ys, .int .i64 yd, .slice A4 yp.length c4] := by rw [hW]; exact (Blk.new wr 47 #[.int .i64 yi, .string yt, .int .i64 ys, .int .i64 yd, .slice A4 yp.length c4]).alloc _
              have BX : Blk W (wr.heap.size + 1) 47 #[.int .i64 xi, .string xt, .int .i64 xs, .int .i64 xd, .slice A2 xp.length c2] := by
                rw [hW]
                have h := Blk.new (wr.alloc (.cells #[.int .i64 yi, .string yt, .int .i64 ys, .int .i64 yd, .slice A4 yp.length c4] 47)) 47 #[.int .i64 xi, .string xt, .int .i64 xs, .int .i64 xd, .slice A2 xp.length c2]
                have e : (wr.alloc (.cells #[.int .i64 yi, .string yt, .int .i64 ys, .int .i64 yd, .slice A4 yp.length c4] 47)).heap.size = wr.heap.size + 1 := by simp
                rw [e] at h
                exact h
              have t0 : W.cell? ⟨wr.heap.size + 1, 0, none⟩ = some (.int .i64 xi) := by rw [BX.cell 0]; rfl
              have t1 : W.cell? ⟨wr.heap.size + 1, 1, none⟩ = some (.string xt) := by rw [BX.cell 1]; rfl
              have t2 : W.cell? ⟨wr.heap.size + 1, 2, none⟩ = some (.int .i64 xs) := by rw [BX.cell 2]; rfl
              have t3 : W.cell? ⟨wr.heap.size + 1, 3, none⟩ = some (.int .i64 xd) := by rw [BX.cell 3]; rfl
              have t4 : W.cell? ⟨wr.heap.size + 1, 4, none⟩ = some (.slice A2 xp.length c2) := by rw [BX.cell 4]; rfl
              have u0 : W.cell? ⟨wr.heap.size, 0, none⟩ = some (.int .i64 yi) := by rw [BY.cell 0]; rfl
              have u1 : W.cell? ⟨wr.heap.size, 1, none⟩ = some (.string yt) := by rw [BY.cell 1]; rfl
              have u2 : W.cell? ⟨wr.heap.size, 2, none⟩ = some (.int .i64 ys) := by rw [BY.cell 2]; rfl
              have u3 : W.cell? ⟨wr.heap.size, 3, none⟩ = some (.int .i64 yd) := by rw [BY.cell 3]; rfl
              have u4 : W.cell? ⟨wr.heap.size, 4, none⟩ = some (.slice A4 yp.length c4) := by rw [BY.cell 4]; rfl
              clear hW BX BY q0 q1 q2 q3 q4 s0 s1 s2 s3 s4 c0 c1 e0 e1
              go_wp2
              go_ret
              exact ⟨ret_bool Hn.out.symm, HB.out _ (HW.out _ hbW)⟩
          have ff2 : ((xs != ys)) = false := by simp [hq2]
          by_cases hq3 : xd = yd
          case neg =>
            have ff3 : ((xd != yd)) = true := by simpa using hq3
            have Hn : Hid (sameG ⟨N, R⟩ ⟨M, T⟩ = false) := Lib.hid (HNo.out (by rw [HS.out]; simp [hq0, hq1, hq2, hq3]))
            clear hq0 hq1 hq2 hq3 HP
            go_wp2
            go_region_held3 (fun w' => w'.cell? ⟨w.heap.size, 1, none⟩ = some (.slice (some ⟨b, off, none⟩) R.length c') ∧ w'.cell? ⟨w.heap.size + 1, 1, none⟩ = some (.slice (some ⟨b', off', none⟩) T.length d') ∧ w'.cell? ⟨b, off + k * 5, none⟩ = some (.int .i64 xi) ∧ w'.cell? ⟨b, off + k * 5 + 1, none⟩ = some (.string xt) ∧ w'.cell? ⟨b, off + k * 5 + 2, none⟩ = some (.int .i64 xs) ∧ w'.cell? ⟨b, off + k * 5 + 3, none⟩ = some (.int .i64 xd) ∧ w'.cell? ⟨b, off + k * 5 + 4, none⟩ = some (.slice A2 xp.length c2) ∧ w'.cell? ⟨b', off' + k * 5, none⟩ = some (.int .i64 yi) ∧ w'.cell? ⟨b', off' + k * 5 + 1, none⟩ = some (.string yt) ∧ w'.cell? ⟨b', off' + k * 5 + 2, none⟩ = some (.int .i64 ys) ∧ w'.cell? ⟨b', off' + k * 5 + 3, none⟩ = some (.int .i64 yd) ∧ w'.cell? ⟨b', off' + k * 5 + 4, none⟩ = some (.slice A4 yp.length c4)) (go_keep) (fail)
            · obtain ⟨W, hW⟩ : ∃ z, z = ((wr.alloc (.cells #[.int .i64 xi, .string xt, .int .i64 xs, .int .i64 xd, .slice A2 xp.length c2] 47)).alloc (.cells #[.int .i64 yi, .string yt, .int .i64 ys, .int .i64 yd, .slice A4 yp.length c4] 47)).drew := ⟨_, rfl⟩
              rw [← hW]
              have hbW : Below wr.heap.size wr W := by
                rw [hW]
                have h := ((Below.refl wr.heap.size wr).alloc (Nat.le_refl _) (.cells #[.int .i64 xi, .string xt, .int .i64 xs, .int .i64 xd, .slice A2 xp.length c2] 47)).alloc (by simp) (.cells #[.int .i64 yi, .string yt, .int .i64 ys, .int .i64 yd, .slice A4 yp.length c4] 47)
                exact ⟨h.os, h.tape, h.output, h.size, h.block⟩
              have BX : Blk W wr.heap.size 47 #[.int .i64 xi, .string xt, .int .i64 xs, .int .i64 xd, .slice A2 xp.length c2] := by rw [hW]; exact (Blk.new wr 47 #[.int .i64 xi, .string xt, .int .i64 xs, .int .i64 xd, .slice A2 xp.length c2]).alloc _
              have BY : Blk W (wr.heap.size + 1) 47 #[.int .i64 yi, .string yt, .int .i64 ys, .int .i64 yd, .slice A4 yp.length c4] := by
                rw [hW]
                have h := Blk.new (wr.alloc (.cells #[.int .i64 xi, .string xt, .int .i64 xs, .int .i64 xd, .slice A2 xp.length c2] 47)) 47 #[.int .i64 yi, .string yt, .int .i64 ys, .int .i64 yd, .slice A4 yp.length c4]
                have e : (wr.alloc (.cells #[.int .i64 xi, .string xt, .int .i64 xs, .int .i64 xd, .slice A2 xp.length c2] 47)).heap.size = wr.heap.size + 1 := by simp
                rw [e] at h
                exact h
              have t0 : W.cell? ⟨wr.heap.size, 0, none⟩ = some (.int .i64 xi) := by rw [BX.cell 0]; rfl
              have t1 : W.cell? ⟨wr.heap.size, 1, none⟩ = some (.string xt) := by rw [BX.cell 1]; rfl
              have t2 : W.cell? ⟨wr.heap.size, 2, none⟩ = some (.int .i64 xs) := by rw [BX.cell 2]; rfl
              have t3 : W.cell? ⟨wr.heap.size, 3, none⟩ = some (.int .i64 xd) := by rw [BX.cell 3]; rfl
              have t4 : W.cell? ⟨wr.heap.size, 4, none⟩ = some (.slice A2 xp.length c2) := by rw [BX.cell 4]; rfl
              have u0 : W.cell? ⟨wr.heap.size + 1, 0, none⟩ = some (.int .i64 yi) := by rw [BY.cell 0]; rfl
              have u1 : W.cell? ⟨wr.heap.size + 1, 1, none⟩ = some (.string yt) := by rw [BY.cell 1]; rfl
              have u2 : W.cell? ⟨wr.heap.size + 1, 2, none⟩ = some (.int .i64 ys) := by rw [BY.cell 2]; rfl
              have u3 : W.cell? ⟨wr.heap.size + 1, 3, none⟩ = some (.int .i64 yd) := by rw [BY.cell 3]; rfl
              have u4 : W.cell? ⟨wr.heap.size + 1, 4, none⟩ = some (.slice A4 yp.length c4) := by rw [BY.cell 4]; rfl
              clear hW BX BY q0 q1 q2 q3 q4 s0 s1 s2 s3 s4 c0 c1 e0 e1
              go_wp2
              go_ret
              exact ⟨ret_bool Hn.out.symm, HB.out _ (HW.out _ hbW)⟩
            · obtain ⟨W, hW⟩ : ∃ z, z = ((wr.alloc (.cells #[.int .i64 yi, .string yt, .int .i64 ys, .int .i64 yd, .slice A4 yp.length c4] 47)).alloc (.cells #[.int .i64 xi, .string xt, .int .i64 xs, .int .i64 xd, .slice A2 xp.length c2] 47)).drew := ⟨_, rfl⟩
              rw [← hW]
              have hbW : Below wr.heap.size wr W := by
                rw [hW]
                have h := ((Below.refl wr.heap.size wr).alloc (Nat.le_refl _) (.cells #[.int .i64 yi, .string yt, .int .i64 ys, .int .i64 yd, .slice A4 yp.length c4] 47)).alloc (by simp) (.cells #[.int .i64 xi, .string xt, .int .i64 xs, .int .i64 xd, .slice A2 xp.length c2] 47)
                exact ⟨h.os, h.tape, h.output, h.size, h.block⟩
              have BY : Blk W wr.heap.size 47 #[.int .i64 yi, .string yt, .int .i64 ys, .int .i64 yd, .slice A4 yp.length c4] := by rw [hW]; exact (Blk.new wr 47 #[.int .i64 yi, .string yt, .int .i64 ys, .int .i64 yd, .slice A4 yp.length c4]).alloc _
              have BX : Blk W (wr.heap.size + 1) 47 #[.int .i64 xi, .string xt, .int .i64 xs, .int .i64 xd, .slice A2 xp.length c2] := by
                rw [hW]
                have h := Blk.new (wr.alloc (.cells #[.int .i64 yi, .string yt, .int .i64 ys, .int .i64 yd, .slice A4 yp.length c4] 47)) 47 #[.int .i64 xi, .string xt, .int .i64 xs, .int .i64 xd, .slice A2 xp.length c2]
                have e : (wr.alloc (.cells #[.int .i64 yi, .string yt, .int .i64 ys, .int .i64 yd, .slice A4 yp.length c4] 47)).heap.size = wr.heap.size + 1 := by simp
                rw [e] at h
                exact h
              have t0 : W.cell? ⟨wr.heap.size + 1, 0, none⟩ = some (.int .i64 xi) := by rw [BX.cell 0]; rfl
              have t1 : W.cell? ⟨wr.heap.size + 1, 1, none⟩ = some (.string xt) := by rw [BX.cell 1]; rfl
              have t2 : W.cell? ⟨wr.heap.size + 1, 2, none⟩ = some (.int .i64 xs) := by rw [BX.cell 2]; rfl
              have t3 : W.cell? ⟨wr.heap.size + 1, 3, none⟩ = some (.int .i64 xd) := by rw [BX.cell 3]; rfl
              have t4 : W.cell? ⟨wr.heap.size + 1, 4, none⟩ = some (.slice A2 xp.length c2) := by rw [BX.cell 4]; rfl
              have u0 : W.cell? ⟨wr.heap.size, 0, none⟩ = some (.int .i64 yi) := by rw [BY.cell 0]; rfl
              have u1 : W.cell? ⟨wr.heap.size, 1, none⟩ = some (.string yt) := by rw [BY.cell 1]; rfl
              have u2 : W.cell? ⟨wr.heap.size, 2, none⟩ = some (.int .i64 ys) := by rw [BY.cell 2]; rfl
              have u3 : W.cell? ⟨wr.heap.size, 3, none⟩ = some (.int .i64 yd) := by rw [BY.cell 3]; rfl
              have u4 : W.cell? ⟨wr.heap.size, 4, none⟩ = some (.slice A4 yp.length c4) := by rw [BY.cell 4]; rfl
              clear hW BX BY q0 q1 q2 q3 q4 s0 s1 s2 s3 s4 c0 c1 e0 e1
              go_wp2
              go_ret
              exact ⟨ret_bool Hn.out.symm, HB.out _ (HW.out _ hbW)⟩
          have ff3 : ((xd != yd)) = false := by simp [hq3]
          have HS1 : Hid (sameR ⟨xi, xt, xs, xd, xp⟩ ⟨yi, yt, ys, yd, yp⟩ = E2) := Lib.hid (by rw [HS.out]; simp [hq0, hq1, hq2, hq3])
          clear hq0 hq1 hq2 hq3
          go_wp2
          go_region_held3 (fun w' => w'.cell? ⟨w.heap.size, 1, none⟩ = some (.slice (some ⟨b, off, none⟩) R.length c') ∧ w'.cell? ⟨w.heap.size + 1, 1, none⟩ = some (.slice (some ⟨b', off', none⟩) T.length d') ∧ w'.cell? ⟨b, off + k * 5, none⟩ = some (.int .i64 xi) ∧ w'.cell? ⟨b, off + k * 5 + 1, none⟩ = some (.string xt) ∧ w'.cell? ⟨b, off + k * 5 + 2, none⟩ = some (.int .i64 xs) ∧ w'.cell? ⟨b, off + k * 5 + 3, none⟩ = some (.int .i64 xd) ∧ w'.cell? ⟨b, off + k * 5 + 4, none⟩ = some (.slice A2 xp.length c2) ∧ w'.cell? ⟨b', off' + k * 5, none⟩ = some (.int .i64 yi) ∧ w'.cell? ⟨b', off' + k * 5 + 1, none⟩ = some (.string yt) ∧ w'.cell? ⟨b', off' + k * 5 + 2, none⟩ = some (.int .i64 ys) ∧ w'.cell? ⟨b', off' + k * 5 + 3, none⟩ = some (.int .i64 yd) ∧ w'.cell? ⟨b', off' + k * 5 + 4, none⟩ = some (.slice A4 yp.length c4)) (go_keep) (fail)
          · obtain ⟨W, hW⟩ : ∃ z, z = ((wr.alloc (.cells #[.int .i64 xi, .string xt, .int .i64 xs, .int .i64 xd, .slice A2 xp.length c2] 47)).alloc (.cells #[.int .i64 yi, .string yt, .int .i64 ys, .int .i64 yd, .slice A4 yp.length c4] 47)).drew := ⟨_, rfl⟩
            rw [← hW]
            have hbW : Below wr.heap.size wr W := by
              rw [hW]
              have h := ((Below.refl wr.heap.size wr).alloc (Nat.le_refl _) (.cells #[.int .i64 xi, .string xt, .int .i64 xs, .int .i64 xd, .slice A2 xp.length c2] 47)).alloc (by simp) (.cells #[.int .i64 yi, .string yt, .int .i64 ys, .int .i64 yd, .slice A4 yp.length c4] 47)
              exact ⟨h.os, h.tape, h.output, h.size, h.block⟩
            have BX : Blk W wr.heap.size 47 #[.int .i64 xi, .string xt, .int .i64 xs, .int .i64 xd, .slice A2 xp.length c2] := by rw [hW]; exact (Blk.new wr 47 #[.int .i64 xi, .string xt, .int .i64 xs, .int .i64 xd, .slice A2 xp.length c2]).alloc _
            have BY : Blk W (wr.heap.size + 1) 47 #[.int .i64 yi, .string yt, .int .i64 ys, .int .i64 yd, .slice A4 yp.length c4] := by
              rw [hW]
              have h := Blk.new (wr.alloc (.cells #[.int .i64 xi, .string xt, .int .i64 xs, .int .i64 xd, .slice A2 xp.length c2] 47)) 47 #[.int .i64 yi, .string yt, .int .i64 ys, .int .i64 yd, .slice A4 yp.length c4]
              have e : (wr.alloc (.cells #[.int .i64 xi, .string xt, .int .i64 xs, .int .i64 xd, .slice A2 xp.length c2] 47)).heap.size = wr.heap.size + 1 := by simp
              rw [e] at h
              exact h
            have t0 : W.cell? ⟨wr.heap.size, 0, none⟩ = some (.int .i64 xi) := by rw [BX.cell 0]; rfl
            have t1 : W.cell? ⟨wr.heap.size, 1, none⟩ = some (.string xt) := by rw [BX.cell 1]; rfl
            have t2 : W.cell? ⟨wr.heap.size, 2, none⟩ = some (.int .i64 xs) := by rw [BX.cell 2]; rfl
            have t3 : W.cell? ⟨wr.heap.size, 3, none⟩ = some (.int .i64 xd) := by rw [BX.cell 3]; rfl
            have t4 : W.cell? ⟨wr.heap.size, 4, none⟩ = some (.slice A2 xp.length c2) := by rw [BX.cell 4]; rfl
            have u0 : W.cell? ⟨wr.heap.size + 1, 0, none⟩ = some (.int .i64 yi) := by rw [BY.cell 0]; rfl
            have u1 : W.cell? ⟨wr.heap.size + 1, 1, none⟩ = some (.string yt) := by rw [BY.cell 1]; rfl
            have u2 : W.cell? ⟨wr.heap.size + 1, 2, none⟩ = some (.int .i64 ys) := by rw [BY.cell 2]; rfl
            have u3 : W.cell? ⟨wr.heap.size + 1, 3, none⟩ = some (.int .i64 yd) := by rw [BY.cell 3]; rfl
            have u4 : W.cell? ⟨wr.heap.size + 1, 4, none⟩ = some (.slice A4 yp.length c4) := by rw [BY.cell 4]; rfl
            clear hW BX BY q0 q1 q2 q3 q4 s0 s1 s2 s3 s4 c0 c1 e0 e1
            go_wp2_with fail
            refine (HP.out _ hbW).mono ?_
            rintro e w9 ⟨rfl, hb9⟩
            have hb10 := HW.out _ (hbW.trans (hb9.mono hbW.size))
            clear t0 t1 t2 t3 t4 u0 u1 u2 u3 u4 hb9
            cases E2
            · have Hn : Hid (sameG ⟨N, R⟩ ⟨M, T⟩ = false) := Lib.hid (HNo.out HS1.out)
              go_wp2
              go_ret
              exact ⟨ret_bool Hn.out.symm, HB.out _ hb10⟩
            · go_wp2
              go_roundw
              case rel =>
                refine ⟨k + 1, by omega, by go_num, fun j a b hj ha hb => ?_, hb10⟩
                rcases Nat.lt_or_ge j k with hj' | hj'
                · exact Heq.out j a b hj' ha hb
                · obtain rfl : j = k := by omega
                  have e1 := Hx.out
                  have e2 := Hy.out
                  rw [ha] at e1
                  rw [hb] at e2
                  injection e1 with e1
                  injection e2 with e2
                  rw [e1, e2]
                  exact HS1.out
              case measure => simp [intOf]; omega
          · obtain ⟨W, hW⟩ : ∃ z, z = ((wr.alloc (.cells #[.int .i64 yi, .string yt, .int .i64 ys, .int .i64 yd, .slice A4 yp.length c4] 47)).alloc (.cells #[.int .i64 xi, .string xt, .int .i64 xs, .int .i64 xd, .slice A2 xp.length c2] 47)).drew := ⟨_, rfl⟩
            rw [← hW]
            have hbW : Below wr.heap.size wr W := by
              rw [hW]
              have h := ((Below.refl wr.heap.size wr).alloc (Nat.le_refl _) (.cells #[.int .i64 yi, .string yt, .int .i64 ys, .int .i64 yd, .slice A4 yp.length c4] 47)).alloc (by simp) (.cells #[.int .i64 xi, .string xt, .int .i64 xs, .int .i64 xd, .slice A2 xp.length c2] 47)
              exact ⟨h.os, h.tape, h.output, h.size, h.block⟩
            have BY : Blk W wr.heap.size 47 #[.int .i64 yi, .string yt, .int .i64 ys, .int .i64 yd, .slice A4 yp.length c4] := by rw [hW]; exact (Blk.new wr 47 #[.int .i64 yi, .string yt, .int .i64 ys, .int .i64 yd, .slice A4 yp.length c4]).alloc _
            have BX : Blk W (wr.heap.size + 1) 47 #[.int .i64 xi, .string xt, .int .i64 xs, .int .i64 xd, .slice A2 xp.length c2] := by
              rw [hW]
              have h := Blk.new (wr.alloc (.cells #[.int .i64 yi, .string yt, .int .i64 ys, .int .i64 yd, .slice A4 yp.length c4] 47)) 47 #[.int .i64 xi, .string xt, .int .i64 xs, .int .i64 xd, .slice A2 xp.length c2]
              have e : (wr.alloc (.cells #[.int .i64 yi, .string yt, .int .i64 ys, .int .i64 yd, .slice A4 yp.length c4] 47)).heap.size = wr.heap.size + 1 := by simp
              rw [e] at h
              exact h
            have t0 : W.cell? ⟨wr.heap.size + 1, 0, none⟩ = some (.int .i64 xi) := by rw [BX.cell 0]; rfl
            have t1 : W.cell? ⟨wr.heap.size + 1, 1, none⟩ = some (.string xt) := by rw [BX.cell 1]; rfl
            have t2 : W.cell? ⟨wr.heap.size + 1, 2, none⟩ = some (.int .i64 xs) := by rw [BX.cell 2]; rfl
            have t3 : W.cell? ⟨wr.heap.size + 1, 3, none⟩ = some (.int .i64 xd) := by rw [BX.cell 3]; rfl
            have t4 : W.cell? ⟨wr.heap.size + 1, 4, none⟩ = some (.slice A2 xp.length c2) := by rw [BX.cell 4]; rfl
            have u0 : W.cell? ⟨wr.heap.size, 0, none⟩ = some (.int .i64 yi) := by rw [BY.cell 0]; rfl
            have u1 : W.cell? ⟨wr.heap.size, 1, none⟩ = some (.string yt) := by rw [BY.cell 1]; rfl
            have u2 : W.cell? ⟨wr.heap.size, 2, none⟩ = some (.int .i64 ys) := by rw [BY.cell 2]; rfl
            have u3 : W.cell? ⟨wr.heap.size, 3, none⟩ = some (.int .i64 yd) := by rw [BY.cell 3]; rfl
            have u4 : W.cell? ⟨wr.heap.size, 4, none⟩ = some (.slice A4 yp.length c4) := by rw [BY.cell 4]; rfl
            clear hW BX BY q0 q1 q2 q3 q4 s0 s1 s2 s3 s4 c0 c1 e0 e1
            go_wp2_with fail
            refine (HP.out _ hbW).mono ?_
            rintro e w9 ⟨rfl, hb9⟩
            have hb10 := HW.out _ (hbW.trans (hb9.mono hbW.size))
            clear t0 t1 t2 t3 t4 u0 u1 u2 u3 u4 hb9
            cases E2
            · have Hn : Hid (sameG ⟨N, R⟩ ⟨M, T⟩ = false) := Lib.hid (HNo.out HS1.out)
              go_wp2
              go_ret
              exact ⟨ret_bool Hn.out.symm, HB.out _ hb10⟩
            · go_wp2
              go_roundw
              case rel =>
                refine ⟨k + 1, by omega, by go_num, fun j a b hj ha hb => ?_, hb10⟩
                rcases Nat.lt_or_ge j k with hj' | hj'
                · exact Heq.out j a b hj' ha hb
                · obtain rfl : j = k := by omega
                  have e1 := Hx.out
                  have e2 := Hy.out
                  rw [ha] at e1
                  rw [hb] at e2
                  injection e1 with e1
                  injection e2 with e2
                  rw [e1, e2]
                  exact HS1.out
              case measure => simp [intOf]; omega
        · have HE2 : Hid (eqF sameR R T = true) := Lib.hid (eqF_yes N1.out fun j a b ha hb => heq j a b (by have := (List.getElem?_eq_some_iff.1 ha).1; omega) ha hb)
          have Hn : Hid (sameG ⟨N, R⟩ ⟨M, T⟩ = true) := Lib.hid (by simp [sameG, HE1.out, HE2.out])
          clear heq
          go_wp2
          go_ret
          exact ⟨ret_bool Hn.out.symm, hww⟩
end Go.Proofs.YthnaipgdjbaebaaGreat
