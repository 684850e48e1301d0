/- The program's sameRel, and of lists of relationships. -/
import Derived.Test.YtdfpmolkkbplpaaGreatGrSameP
namespace Go.Proofs.YtdfpmolkkbplpaaGreat
open Go.RowKit
set_option linter.unusedVariables false

set_option maxRecDepth 100000 in
set_option maxHeartbeats 1000000 in
theorem sameRel_any (p q : Rv) (A : Option Addr) (c : Nat) (D : Option Addr) (d : Nat) (B : Nat) (w : World)
    (h2 : PropsR w B A p.props) (l2 : p.props.length ≤ 140737488351232) (t1 : p.typ.size ≤ 140737488351232) (g2 : PropsR w B D q.props) (m2 : q.props.length ≤ 140737488351232) (t2 : q.typ.size ≤ 140737488351232) (hB : B ≤ w.heap.size) :
    Calls Tryz.prog 51 #[ragg p A c, ragg q D d] w (Says (sameR p q) w) := by
  obtain ⟨xi, xt, xs, xd, xp⟩ := p
  obtain ⟨yi, yt, ys, yd, yp⟩ := q
  simp only at h2 l2 g2 m2 t1 t2
  simp only [ragg, rcells]
  obtain ⟨wo, hwo⟩ : ∃ z, z = (w.alloc (.cells #[.int .i64 xi, .string xt, .int .i64 xs, .int .i64 xd, .slice A xp.length c] 47)).alloc (.cells #[.int .i64 yi, .string yt, .int .i64 ys, .int .i64 yd, .slice D yp.length d] 47) := ⟨_, rfl⟩
  have hbo : Below w.heap.size w wo := by rw [hwo]; exact ((Below.refl _ _).alloc (Nat.le_refl _) _).alloc (by simp) _
  have hb1 : Below B w wo := hbo.mono hB
  have HP := eqProps_any A D c d B xp yp wo (PropsR.below h2 hb1) (PropsR.below g2 hb1) (by have := hbo.size; omega) l2 m2
  obtain ⟨E2, hE2⟩ : ∃ E, E = eqF sameP xp yp := ⟨_, rfl⟩
  rw [← hE2] at HP
  have HE2 := Lib.hid hE2
  have HP := Lib.hid HP
  have Hwo := Lib.hid hwo
  clear h2 g2 hwo hb1 hE2
  by_cases h1 : xi = yi
  case neg =>
    have f0 : (xi == yi) = false := by simpa using h1
    have Hr : Hid (sameR ⟨xi, xt, xs, xd, xp⟩ ⟨yi, yt, ys, yd, yp⟩ = false) := Lib.hid (by simp [sameR, h1])
    clear h1 HP HE2
    go_enter Tryz.func51, Tryz.ntmps51
    go_wp2
    go_ret
    rw [← Hwo.out]
    exact ⟨ret_bool Hr.out.symm, hbo⟩
  have f0 : (xi == yi) = true := by simpa using h1
  by_cases h2 : xt = yt
  case neg =>
    have f1 : (xt.toList == yt.toList) = false := by rw [beq_eq_false_iff_ne]; exact fun e => h2 (str_inj e)
    have Hr : Hid (sameR ⟨xi, xt, xs, xd, xp⟩ ⟨yi, yt, ys, yd, yp⟩ = false) := Lib.hid (by simp [sameR, h2])
    clear h1 h2 HP HE2
    go_enter Tryz.func51, Tryz.ntmps51
    go_wp2
    go_ret
    rw [← Hwo.out]
    exact ⟨ret_bool Hr.out.symm, hbo⟩
  have f1 : (xt.toList == yt.toList) = true := by rw [h2]; exact beq_self_eq_true _
  by_cases h3 : xs = ys
  case neg =>
    have f2 : (xs == ys) = false := by simpa using h3
    have Hr : Hid (sameR ⟨xi, xt, xs, xd, xp⟩ ⟨yi, yt, ys, yd, yp⟩ = false) := Lib.hid (by simp [sameR, h3])
    clear h1 h2 h3 HP HE2
    go_enter Tryz.func51, Tryz.ntmps51
    go_wp2
    go_ret
    rw [← Hwo.out]
    exact ⟨ret_bool Hr.out.symm, hbo⟩
  have f2 : (xs == ys) = true := by simpa using h3
  by_cases h4 : xd = yd
  case neg =>
    have f3 : (xd == yd) = false := by simpa using h4
    have Hr : Hid (sameR ⟨xi, xt, xs, xd, xp⟩ ⟨yi, yt, ys, yd, yp⟩ = false) := Lib.hid (by simp [sameR, h4])
    clear h1 h2 h3 h4 HP HE2
    go_enter Tryz.func51, Tryz.ntmps51
    go_wp2
    go_ret
    rw [← Hwo.out]
    exact ⟨ret_bool Hr.out.symm, hbo⟩
  have f3 : (xd == yd) = true := by simpa using h4
  have Hr : Hid (sameR ⟨xi, xt, xs, xd, xp⟩ ⟨yi, yt, ys, yd, yp⟩ = E2) := Lib.hid (by simp only [sameR, h1, h2, h3, h4, decide_true, Bool.true_and]; exact HE2.out.symm)
  clear h1 h2 h3 h4
  go_enter Tryz.func51, Tryz.ntmps51
  go_wp2_with fail
  rw [← Hwo.out]
  refine HP.out.mono ?_
  rintro e w8 ⟨rfl, hb8⟩
  have hb9 := hbo.trans (hb8.mono hbo.size)
  clear hb8
  go_wp2
  go_ret
  exact ⟨ret_bool Hr.out.symm, hb9⟩

set_option maxRecDepth 100000 in
set_option maxHeartbeats 2000000 in
theorem eqRels_any (A A' : Option Addr) (cap cap' B : Nat) (L M : List Rv) (w : World) (h : RelsR w B A L) (h' : RelsR w B A' M) (hB : B ≤ w.heap.size) (hl : L.length ≤ 140737488351232) (hl' : M.length ≤ 140737488351232) :
    Calls Tryz.prog 50 #[.slice A L.length cap, .slice A' M.length cap', .func (.func 51) #[] #[]] w (Says (eqF sameR L M) w) := by
  have H := Lib.hid h
  have H' := Lib.hid h'
  clear h h'
  by_cases h0 : L.length = M.length
  · have hb : ((L.length : Int) != (M.length : Int)) = false := by simp [h0]
    have H0 := Lib.hid h0
    have h1 : L.length ≤ M.length := by omega
    have h2 : M.length ≤ L.length := by omega
    clear h0
    go_enter Tryz.func50, Tryz.ntmps50
    go_wp2
    go_loopw [17] (fun i wr => ∃ k : Nat, k ≤ L.length ∧ i = .int .i64 k ∧ (∀ j a b, j < k → L[j]? = some a → M[j]? = some b → sameR a b = true) ∧ Below w.heap.size w wr) (fun i _ => L.length - (intOf i).toNat)
    case atStart => exact ⟨0, Nat.zero_le _, rfl, fun j a b hj => by omega, Below.refl _ _⟩
    case round =>
      obtain ⟨k, hk, rfl, heq, hbw⟩ := hrel
      by_cases hlt : k < L.length
      · have hlt' : k < M.length := by omega
        obtain ⟨x, hx⟩ : ∃ x, L[k]? = some x := ⟨_, List.getElem?_eq_getElem hlt⟩
        obtain ⟨y, hy⟩ : ∃ y, M[k]? = some y := ⟨_, List.getElem?_eq_getElem hlt'⟩
        have hsz := hbw.size
        obtain ⟨b, off, rfl, hbB, A1, c1, hc, hr1, hid, hsr, hds, hty, hs1⟩ := (RelsR.below H.out (hbw.mono hB)) k _ hx
        obtain ⟨b', off', rfl, hbB', A3, c3, hc', hr3, hid', hsr', hds', hty', hs1'⟩ := (RelsR.below H'.out (hbw.mono hB)) k _ hy
        obtain ⟨q0, q1, q2, q3, q4⟩ := rel_cells hc
        obtain ⟨s0, s1, s2, s3, s4⟩ := rel_cells hc'
        obtain ⟨xi, xt, xs, xd, xp⟩ := x
        obtain ⟨yi, yt, ys, yd, yp⟩ := y
        simp only at q0 q1 q2 q3 q4 s0 s1 s2 s3 s4 hr1 hr3 hid hid' hs1 hs1' hty hty'
        obtain ⟨wo, hwo⟩ : ∃ z, z = (wr.alloc (.cells #[.int .i64 xi, .string xt, .int .i64 xs, .int .i64 xd, .slice A1 xp.length c1] 47)).alloc (.cells #[.int .i64 yi, .string yt, .int .i64 ys, .int .i64 yd, .slice A3 yp.length c3] 47) := ⟨_, rfl⟩
        have hbo : Below w.heap.size w wo := by rw [hwo]; exact (hbw.alloc hsz _).alloc (by simp; omega) _
        have hbr : Below B wr wo := by rw [hwo]; exact ((Below.refl _ _).alloc (by omega) _).alloc (by simp; omega) _
        have hb1 : Below B wr (wr.alloc (.cells #[.int .i64 xi, .string xt, .int .i64 xs, .int .i64 xd, .slice A1 xp.length c1] 47)) := (Below.refl _ _).alloc (by omega) _
        have z0 := (hb1.cell (p := ⟨b', off' + k * 5, none⟩) hbB').trans s0
        have z1 := (hb1.cell (p := ⟨b', off' + k * 5 + 1, none⟩) hbB').trans s1
        have z2 := (hb1.cell (p := ⟨b', off' + k * 5 + 2, none⟩) hbB').trans s2
        have z3 := (hb1.cell (p := ⟨b', off' + k * 5 + 3, none⟩) hbB').trans s3
        have z4 := (hb1.cell (p := ⟨b', off' + k * 5 + 4, none⟩) hbB').trans s4
        have HS := sameRel_any ⟨xi, xt, xs, xd, xp⟩ ⟨yi, yt, ys, yd, yp⟩ A1 c1 A3 c3 B wo (PropsR.below hr1 hbr) hs1 hty (PropsR.below hr3 hbr) hs1' hty' (by have := hbo.size; omega)
        simp only [ragg, rcells] at HS
        have Hwo := Lib.hid hwo
        have Hx := Lib.hid hx
        have Hy := Lib.hid hy
        have Heq := Lib.hid heq
        have hi1 : (k : Int) < (M.length : Int) := by omega
        have hi0 : (0 : Int) ≤ (k : Int) := by omega
        clear hwo hbr hx hy heq hb1 hc hc' hr1 hr3 hid hid' hsr hsr' hds hds'
        obtain ⟨E, hE⟩ : ∃ E, E = sameR ⟨xi, xt, xs, xd, xp⟩ ⟨yi, yt, ys, yd, yp⟩ := ⟨_, rfl⟩
        rw [← hE] at HS
        have HE := Lib.hid hE
        have HS := Lib.hid HS
        clear hE
        go_wp2_with fail
        rw [← Hwo.out]
        refine HS.out.mono ?_
        rintro e w8 ⟨rfl, hb8⟩
        have hb9 := hbo.trans (hb8.mono hbo.size)
        clear hb8 hbo
        cases E
        · have Hn : Hid (eqF sameR L M = false) := Lib.hid (eqF_no Hx.out Hy.out HE.out.symm)
          go_wp2
          go_ret
          exact ⟨ret_bool Hn.out.symm, hb9⟩
        · go_wp2
          go_roundw
          case rel =>
            refine ⟨k + 1, by omega, by go_num, fun j a b hj ha hb => ?_, hb9⟩
            rcases Nat.lt_or_ge j k with hj' | hj'
            · exact Heq.out j a b hj' ha hb
            · obtain rfl : j = k := by omega
              have e1 := Hx.out
              have e2 := Hy.out
              rw [ha] at e1
              rw [hb] at e2
              injection e1 with e1
              injection e2 with e2
              rw [e1, e2, ← HE.out]
          case measure => simp [intOf]; omega
      · have Hn : Hid (eqF sameR L M = true) := Lib.hid (eqF_yes H0.out fun j a b ha hb => heq j a b (by have := (List.getElem?_eq_some_iff.1 ha).1; omega) ha hb)
        clear heq
        go_wp2
        go_ret
        exact ⟨ret_bool Hn.out.symm, hbw⟩
  · have hb : ((L.length : Int) != (M.length : Int)) = true := by rw [bne_iff_ne]; omega
    have Hn : Hid (eqF sameR L M = false) := Lib.hid (eqF_len h0)
    clear h0
    go_enter Tryz.func50, Tryz.ntmps50
    go_wp2
    go_ret
    exact ⟨ret_bool Hn.out.symm, Below.refl _ _⟩

end Go.Proofs.YtdfpmolkkbplpaaGreat
