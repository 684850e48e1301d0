/- The program's sameNode, and of lists of nodes. -/
import Derived.Test.YtdfpmolkkbplpaaGreatGrSameP
namespace Go.Proofs.YtdfpmolkkbplpaaGreat
open Go.RowKit
set_option linter.unusedVariables false

set_option maxRecDepth 100000 in
set_option maxHeartbeats 1000000 in
theorem sameNode_any (p q : Nv) (A : Option Addr) (c : Nat) (A' : Option Addr) (c' : Nat) (D : Option Addr) (d : Nat) (D' : Option Addr) (d' : Nat) (B : Nat) (w : World)
    (h1 : RL svl w B A p.labels) (h2 : PropsR w B A' p.props) (l1 : p.labels.length ≤ 140737488351232) (l2 : p.props.length ≤ 140737488351232) (g1 : RL svl w B D q.labels) (g2 : PropsR w B D' q.props) (m1 : q.labels.length ≤ 140737488351232) (m2 : q.props.length ≤ 140737488351232) (hB : B ≤ w.heap.size) :
    Calls Tryz.prog 49 #[nagg p A c A' c', nagg q D d D' d'] w (Says (sameN p q) w) := by
  obtain ⟨xi, xl, xp⟩ := p
  obtain ⟨yi, yl, yp⟩ := q
  simp only at h1 h2 l1 l2 g1 g2 m1 m2
  simp only [nagg, ncells]
  obtain ⟨wo, hwo⟩ : ∃ z, z = (w.alloc (.cells #[.int .i64 xi, .slice A xl.length c, .slice A' xp.length c'] 40)).alloc (.cells #[.int .i64 yi, .slice D yl.length d, .slice D' yp.length d'] 40) := ⟨_, rfl⟩
  have hbo : Below w.heap.size w wo := by rw [hwo]; exact ((Below.refl _ _).alloc (Nat.le_refl _) _).alloc (by simp) _
  have hb1 : Below B w wo := hbo.mono hB
  have hlt1 : w.heap.size < wo.heap.size := by rw [hwo]; simp; omega
  have hlt2 : w.heap.size + 1 < wo.heap.size := by rw [hwo]; simp
  have Bx : Blk wo w.heap.size 40 #[.int .i64 xi, .slice A xl.length c, .slice A' xp.length c'] := by subst hwo; exact (Blk.new _ _ _).alloc _
  have By : Blk wo (w.heap.size + 1) 40 #[.int .i64 yi, .slice D yl.length d, .slice D' yp.length d'] := by
    subst hwo
    have := Blk.new (w.alloc (.cells #[.int .i64 xi, .slice A xl.length c, .slice A' xp.length c'] 40)) 40 #[.int .i64 yi, .slice D yl.length d, .slice D' yp.length d']
    simpa using this
  have HL := equalS_any A D c d B B xl yl wo (h1.below hb1) (g1.below hb1) (by unfold maxLen; omega) (by unfold maxLen; omega)
  have HP := fun n => eqProps_any A' D' c' d' B xp yp (wo.drewN n) (PropsR.below h2 (below_drewN hb1 n)) (PropsR.below g2 (below_drewN hb1 n)) (by have := hbo.size; simp; omega) l2 m2
  obtain ⟨E, hE⟩ : ∃ E, E = decide (xl = yl) := ⟨_, rfl⟩
  obtain ⟨E2, hE2⟩ : ∃ E, E = eqF sameP xp yp := ⟨_, rfl⟩
  rw [← hE] at HL
  rw [← hE2] at HP
  have q2 : wo.cell? ⟨w.heap.size, 2, none⟩ = some (.slice A' xp.length c') := by rw [Bx.cell 2]; rfl
  have s2 : wo.cell? ⟨w.heap.size + 1, 2, none⟩ = some (.slice D' yp.length d') := by rw [By.cell 2]; rfl
  have HE := Lib.hid hE
  have HE2 := Lib.hid hE2
  have HL := Lib.hid HL
  have HP := Lib.hid HP
  have Hwo := Lib.hid hwo
  clear h1 h2 g1 g2 hwo hb1 hE hE2 Bx By
  by_cases hk : xi = yi
  · have f1 : (xi == yi) = true := by simpa using hk
    have Hr : Hid (sameN ⟨xi, xl, xp⟩ ⟨yi, yl, yp⟩ = (E && E2)) := Lib.hid (by simp only [sameN, hk, decide_true, Bool.true_and]; rw [HE.out, HE2.out])
    clear hk
    go_enter Tryz.func49, Tryz.ntmps49
    go_wp2_with fail
    rw [← Hwo.out]
    refine HL.out.mono ?_
    rintro e w8 ⟨rfl, n, rfl⟩
    cases E
    · go_wp2
      go_ret
      exact ⟨ret_bool Hr.out.symm, below_drewN hbo n⟩
    · go_wp2_with fail
      refine (HP.out n).mono ?_
      rintro e w9 ⟨rfl, hb9⟩
      have hb10 := (below_drewN hbo n).trans (hb9.mono (by have := hbo.size; simp; omega))
      clear hb9
      go_wp2
      go_ret
      exact ⟨ret_bool Hr.out.symm, hb10⟩
  · have f1 : (xi == yi) = false := by simpa using hk
    have Hr : Hid (sameN ⟨xi, xl, xp⟩ ⟨yi, yl, yp⟩ = false) := Lib.hid (by simp [sameN, hk])
    clear hk
    go_enter Tryz.func49, Tryz.ntmps49
    go_wp2
    go_ret
    rw [← Hwo.out]
    exact ⟨ret_bool Hr.out.symm, hbo⟩

set_option maxRecDepth 100000 in
set_option maxHeartbeats 2000000 in
theorem eqNodes_any (A A' : Option Addr) (cap cap' B : Nat) (L M : List Nv) (w : World) (h : NodesR w B A L) (h' : NodesR w B A' M) (hB : B ≤ w.heap.size) (hl : L.length ≤ 140737488351232) (hl' : M.length ≤ 140737488351232) :
    Calls Tryz.prog 48 #[.slice A L.length cap, .slice A' M.length cap', .func (.func 49) #[] #[]] w (Says (eqF sameN L M) w) := by
  have H := Lib.hid h
  have H' := Lib.hid h'
  clear h h'
  by_cases h0 : L.length = M.length
  · have hb : ((L.length : Int) != (M.length : Int)) = false := by simp [h0]
    have H0 := Lib.hid h0
    have h1 : L.length ≤ M.length := by omega
    have h2 : M.length ≤ L.length := by omega
    clear h0
    go_enter Tryz.func48, Tryz.ntmps48
    go_wp2
    go_loopw [17] (fun i wr => ∃ k : Nat, k ≤ L.length ∧ i = .int .i64 k ∧ (∀ j a b, j < k → L[j]? = some a → M[j]? = some b → sameN a b = true) ∧ Below w.heap.size w wr) (fun i _ => L.length - (intOf i).toNat)
    case atStart => exact ⟨0, Nat.zero_le _, rfl, fun j a b hj => by omega, Below.refl _ _⟩
    case round =>
      obtain ⟨k, hk, rfl, heq, hbw⟩ := hrel
      by_cases hlt : k < L.length
      · have hlt' : k < M.length := by omega
        obtain ⟨x, hx⟩ : ∃ x, L[k]? = some x := ⟨_, List.getElem?_eq_getElem hlt⟩
        obtain ⟨y, hy⟩ : ∃ y, M[k]? = some y := ⟨_, List.getElem?_eq_getElem hlt'⟩
        have hsz := hbw.size
        obtain ⟨b, off, rfl, hbB, A1, c1, A2, c2, hc, hr1, hr2, hid, hs1, hs2, hs3⟩ := (NodesR.below H.out (hbw.mono hB)) k _ hx
        obtain ⟨b', off', rfl, hbB', A3, c3, A4, c4, hc', hr3, hr4, hid', hs1', hs2', hs3'⟩ := (NodesR.below H'.out (hbw.mono hB)) k _ hy
        obtain ⟨q0, q1, q2⟩ := node_cells hc
        obtain ⟨s0, s1, s2⟩ := node_cells hc'
        obtain ⟨xi, xl, xp⟩ := x
        obtain ⟨yi, yl, yp⟩ := y
        simp only at q0 q1 q2 s0 s1 s2 hr1 hr2 hr3 hr4 hid hid' hs1 hs2 hs1' hs2'
        obtain ⟨wo, hwo⟩ : ∃ z, z = (wr.alloc (.cells #[.int .i64 xi, .slice A1 xl.length c1, .slice A2 xp.length c2] 40)).alloc (.cells #[.int .i64 yi, .slice A3 yl.length c3, .slice A4 yp.length c4] 40) := ⟨_, rfl⟩
        have hbo : Below w.heap.size w wo := by rw [hwo]; exact (hbw.alloc hsz _).alloc (by simp; omega) _
        have hbr : Below B wr wo := by rw [hwo]; exact ((Below.refl _ _).alloc (by omega) _).alloc (by simp; omega) _
        have hb1 : Below B wr (wr.alloc (.cells #[.int .i64 xi, .slice A1 xl.length c1, .slice A2 xp.length c2] 40)) := (Below.refl _ _).alloc (by omega) _
        have z0 := (hb1.cell (p := ⟨b', off' + k * 3, none⟩) hbB').trans s0
        have z1 := (hb1.cell (p := ⟨b', off' + k * 3 + 1, none⟩) hbB').trans s1
        have z2 := (hb1.cell (p := ⟨b', off' + k * 3 + 2, none⟩) hbB').trans s2
        have HS := sameNode_any ⟨xi, xl, xp⟩ ⟨yi, yl, yp⟩ A1 c1 A2 c2 A3 c3 A4 c4 B wo (hr1.below hbr) (PropsR.below hr2 hbr) hs1 hs2 (hr3.below hbr) (PropsR.below hr4 hbr) hs1' hs2' (by have := hbo.size; omega)
        simp only [nagg, ncells] at HS
        have Hwo := Lib.hid hwo
        have Hx := Lib.hid hx
        have Hy := Lib.hid hy
        have Heq := Lib.hid heq
        have hi1 : (k : Int) < (M.length : Int) := by omega
        have hi0 : (0 : Int) ≤ (k : Int) := by omega
        clear hwo hbr hx hy heq hb1 hc hc' hr1 hr2 hr3 hr4 hid hid' hs3 hs3'
        obtain ⟨E, hE⟩ : ∃ E, E = sameN ⟨xi, xl, xp⟩ ⟨yi, yl, yp⟩ := ⟨_, rfl⟩
        rw [← hE] at HS
        have HE := Lib.hid hE
        have HS := Lib.hid HS
        clear hE
        go_wp2_with fail
        rw [← Hwo.out]
        refine HS.out.mono ?_
        rintro e w8 ⟨rfl, hb8⟩
        have hb9 := hbo.trans (hb8.mono hbo.size)
        clear hb8 hbo
        cases E
        · have Hn : Hid (eqF sameN L M = false) := Lib.hid (eqF_no Hx.out Hy.out HE.out.symm)
          go_wp2
          go_ret
          exact ⟨ret_bool Hn.out.symm, hb9⟩
        · go_wp2
          go_roundw
          case rel =>
            refine ⟨k + 1, by omega, by go_num, fun j a b hj ha hb => ?_, hb9⟩
            rcases Nat.lt_or_ge j k with hj' | hj'
            · exact Heq.out j a b hj' ha hb
            · obtain rfl : j = k := by omega
              have e1 := Hx.out
              have e2 := Hy.out
              rw [ha] at e1
              rw [hb] at e2
              injection e1 with e1
              injection e2 with e2
              rw [e1, e2, ← HE.out]
          case measure => simp [intOf]; omega
      · have Hn : Hid (eqF sameN L M = true) := Lib.hid (eqF_yes H0.out fun j a b ha hb => heq j a b (by have := (List.getElem?_eq_some_iff.1 ha).1; omega) ha hb)
        clear heq
        go_wp2
        go_ret
        exact ⟨ret_bool Hn.out.symm, hbw⟩
  · have hb : ((L.length : Int) != (M.length : Int)) = true := by rw [bne_iff_ne]; omega
    have Hn : Hid (eqF sameN L M = false) := Lib.hid (eqF_len h0)
    clear h0
    go_enter Tryz.func48, Tryz.ntmps48
    go_wp2
    go_ret
    exact ⟨ret_bool Hn.out.symm, Below.refl _ _⟩

end Go.Proofs.YtdfpmolkkbplpaaGreat
