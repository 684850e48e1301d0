/- frame: NewReader, Feed, Err, Rest. -/
import Derived.Test.YtkdlehekignnhaaDoorFr5
namespace Go.Proofs.YtkdlehekignnhaaDoor
open Go.RowKit Go.Shelf
set_option linter.unusedVariables false
section
variable {S : Fp} {l : List Ass} {w0 w w' : World} {g : Nat} {bs : List Nat} {Fs : List (Nat × List Nat)} {err : Int}

set_option maxHeartbeats 400000 in
theorem NewReader_any [Stable (Sep l)] (h : St S l w0 w) : Calls Tryd.prog 22 #[] w fun e w' => ∃ g, e = .returned (.pointer (some ⟨g, 0, none⟩)) ∧ St S (RdrA g [] [] 0 :: l) w0 w' := by
  have h1 := ((h.nilFs).nilOb 5).newBlk 72 #[.slice none 0 0, .slice none 0 0, .int .i64 0]
  have H := Lib.hid (rdr_shut (Fs := []) rfl h1)
  clear h h1
  go_enter Tryd.func22, Tryd.ntmps22
  go_wp2_with fail
  go_ret
  exact ⟨_, rfl, H.out⟩
set_option maxHeartbeats 400000 in
theorem Err_any [Stable (Sep l)] (h : St S (RdrA g bs Fs err :: l) w0 w) : Calls Tryd.prog 25 #[.pointer (some ⟨g, 0, none⟩)] w fun e w' => e = .returned (.int .i64 err) ∧ w = w' := by
  obtain ⟨sl, v, X, hX, h1⟩ := rdr_open h
  obtain ⟨c0, c1, c2⟩ := cells3 h1
  clear h h1 hX c0 c1
  go_enter Tryd.func25, Tryd.ntmps25
  go_wp2_with fail
  go_ret
  exact ⟨rfl, rfl⟩
set_option maxHeartbeats 400000 in
theorem Rest_any [Stable (Sep l)] (h : St S (RdrA g bs Fs err :: l) w0 w) : Calls Tryd.prog 26 #[.pointer (some ⟨g, 0, none⟩)] w fun e w' => e = .returned (.int .i64 bs.length) ∧ w = w' := by
  obtain ⟨sl, v, X, hX, h1⟩ := rdr_open h
  obtain ⟨A, c, rfl, -, -, -, -⟩ := h1.swap.ob.form
  obtain ⟨c0, c1, c2⟩ := cells3 h1
  clear h h1 hX c1 c2
  go_enter Tryd.func26, Tryd.ntmps26
  go_wp2_with fail
  go_ret
  exact ⟨rfl, rfl⟩

theorem RB.dropM {w : World} {B : Nat} {A : Option Addr} {b : List Nat} (h : RB w B A b) {k : Nat} (hk : k ≤ b.length) : RB w B (A.map fun y => y.add k) (b.drop k) := by
  by_cases h0 : 0 < b.length
  · obtain ⟨bb, off, rfl, -, -⟩ := h.all h0
    have h2 := h.cut rfl k b.length (Nat.le_refl _) hk
    rw [List.take_length] at h2
    simp only [Option.map_some, add_none]
    exact h2
  · have e : b.drop k = [] := List.length_eq_zero_iff.1 (by rw [List.length_drop]; omega)
    rw [e]
    exact RB.empty _ _ _

/-! ### Feed -/
def fedE (err : Int) (bs ck : List Nat) : Int := if err = 0 then gotE 0 (evs (bs ++ ck)) else err
def fedB (err : Int) (bs ck : List Nat) : List Nat := if err = 0 then if gotE 0 (evs (bs ++ ck)) = 0 then (bs ++ ck).drop (gotN (evs (bs ++ ck))) else [] else bs
def fedF (err : Int) (bs ck : List Nat) (Fs : List (Nat × List Nat)) : List (Nat × List Nat) := if err = 0 then Fs ++ gotF (evs (bs ++ ck)) else Fs
set_option maxRecDepth 100000 in
set_option maxHeartbeats 1000000 in
theorem Feed_any [Stable (Sep l)] (hT : TabW w0) (h : St Zf (RdrA g bs Fs err :: l) w0 w) {A : Option Addr} {c B : Nat} {ck : List Nat} (hr : RB w B A ck) (hl : bs.length + ck.length ≤ 1099511627776) (hF : Fs.length ≤ 1099511627776) :
    Calls Tryd.prog 24 #[.pointer (some ⟨g, 0, none⟩), .slice A ck.length c] w fun e w' => e = .returned (.int .i64 (fedE err bs ck)) ∧ St Zf (RdrA g (fedB err bs ck) (fedF err bs ck Fs) (fedE err bs ck) :: l) w0 w' := by
  have HH := Lib.hid h
  obtain ⟨sl, v, X, hX, h1⟩ := rdr_open h
  obtain ⟨A0, c0, rfl, hbc, hcm, hrb, -⟩ := h1.swap.ob.form
  obtain ⟨k0, k1, k2⟩ := cells3 h1
  by_cases he : err = 0
  · have e1 : fedE err bs ck = gotE 0 (evs (bs ++ ck)) := if_pos he
    have e2 : fedF err bs ck Fs = Fs ++ gotF (evs (bs ++ ck)) := if_pos he
    have e3 : fedB err bs ck = if gotE 0 (evs (bs ++ ck)) = 0 then (bs ++ ck).drop (gotN (evs (bs ++ ck))) else [] := if_pos he
    rw [e1, e2, e3]
    clear e1 e2 e3
    subst he
    obtain ⟨i0, hi, hz0, hz1, hz2⟩ := info_parts u8_info
    obtain ⟨b, hb⟩ : ∃ b, b = bs ++ ck := ⟨_, rfl⟩
    have hbl : b.length ≤ 1099511627776 := by rw [hb, List.length_append]; omega
    have HB := Lib.hid hb
    have HBN := Lib.hid (show b.length = bs.length + ck.length by rw [hb, List.length_append])
    have HOB := Lib.hid h1.swap.ob
    have HR := Lib.hid hr
    have H1 := Lib.hid h1
    have HX := Lib.hid hX
    have HT := Lib.hid hT
    have HBL := Lib.hid hbl
    have HFL := Lib.hid hF
    have HLEN : Hid (bs.length + ck.length ≤ 140737488355328) := Lib.hid (by omega)
    rw [← hb]
    have hgn := gotN_evs b
    have HCol : Hid (∀ w2, St Zf (RdrA g b Fs 0 :: l) w0 w2 → Calls Tryd.prog 38 #[.pointer (some ⟨g, 0, none⟩)] w2 fun e w' => e = .returned (.int .i64 (gotN (evs b) : Int)) ∧ St Zf (RdrA g b (Fs ++ gotF (evs b)) (gotE 0 (evs b)) :: l) w0 w') := Lib.hid fun w2 h2 => collect_any hT h2 hbl hF
    generalize gotN (evs b) = nn at *
    generalize gotE 0 (evs b) = ee at *
    generalize Fs ++ gotF (evs b) = Fn at *
    obtain ⟨D, hD⟩ : ∃ q, q = if ee = 0 then b.drop nn else [] := ⟨_, rfl⟩
    rw [← hD]
    have HD := Lib.hid hD
    have HGN := Lib.hid hgn
    clear hD hgn
    have l0 := h1.blk.frozen 0
    clear h h1 hX hrb hr hT hl hF hb hbl hbc hcm
    go_enter Tryd.func24, Tryd.ntmps24
    go_wp2_with (at_builtin; refine wpList_append_bytes _ rfl _ _ 23 rfl 0 5 i0 Tryd.underlying23 hi hz0 hz1 hz2 (.slice A0 bs.length c0) bs (by rfl) HOB.out A c B ck ck.length rfl (by rfl) HR.out HLEN.out (Nat.zero_le _) ?_; intro v1 w1 hown1 hg1 hat1; have hs1 := H1.out.swap.grewOb hown1 hg1 hat1 (Nat.le_refl _); obtain ⟨A1, c1, rfl, hb1, hm1, -, -⟩ := hown1.form; rw [← HB.out] at hs1 hb1; have hk := hs1.swap.blk; have m0 : w1.cell? ⟨g, 0, none⟩ = some (.slice A0 bs.length c0) := (by rw [hk.cell 0]; rfl); have n0 := hk.frozen 0; have HS1 := Lib.hid hs1; have HC1 := Lib.hid hb1; clear hs1 hk hown1 hg1 hat1 hb1 k0 k1 k2 l0)
    rw [← HBN.out]
    have h2 := rdr_shut HX.out (HS1.out.swap.setBlk 0 (.slice A1 b.length c1))
    obtain ⟨w2, hw2⟩ : ∃ q, q = w1.setCell ⟨g, 0, none⟩ (.slice A1 b.length c1) := ⟨_, rfl⟩
    rw [← hw2] at h2 ⊢
    have H2 := Lib.hid h2
    clear h2 hw2 m0 n0 HS1 HC1 HH HOB H1 HR HLEN
    refine (HCol.out w2 H2.out).mono ?_
    rintro e w3 ⟨rfl, h3⟩
    have H3 := Lib.hid h3
    obtain ⟨sl3, v3, X3, hX3, h4⟩ := rdr_open h3
    obtain ⟨A3, c3, rfl, hbc3, hcm3, hr3, -⟩ := h4.swap.ob.form
    obtain ⟨k0, k1, k2⟩ := cells3 h4
    have l0 := h4.blk.frozen 0
    have HX3 := Lib.hid hX3
    have H4 := Lib.hid h4
    have HR3 := Lib.hid hr3
    have hgn := HGN.out
    obtain ⟨n, hn⟩ : ∃ n, n = b.length := ⟨_, rfl⟩
    have HN := Lib.hid hn
    rw [← hn] at k0 hgn hbc3
    clear h3 hX3 h4 hr3 hn k1 hcm3 H2 HFL HGN
    by_cases hee : ee = 0
    · subst hee
      have HD1 : Hid (D = b.drop nn) := Lib.hid (by rw [HD.out, if_pos rfl])
      by_cases hnn : nn = 0
      · subst hnn
        clear hbc3 l0 H4 HR3 HX3
        go_wp2_with fail
        go_ret
        refine ⟨rfl, ?_⟩
        rw [HD1.out, List.drop_zero]
        exact H3.out
      · have hn0 : (0 : Int) < (nn : Int) := by omega
        have hn1 : (nn : Int) ≤ (n : Int) := by omega
        have hn2 : (nn : Int) ≤ (c3 : Int) := by omega
        have hn3 : 0 < nn := by omega
        have HCl : Hid (∀ A' m cc, RB w3 w3.heap.size A' D → m = D.length → Calls Tryd.prog 35 #[.slice A' m cc] w3 (NewB D w3)) := Lib.hid fun A' m cc h hm => by
          subst hm
          exact Clone_any A' cc _ D w3 h (Nat.le_refl _) (by rw [HD1.out, List.length_drop]; have := HBL.out; omega)
        have HDL : Hid (n - nn = D.length) := Lib.hid (by rw [HD1.out, List.length_drop, HN.out])
        have HRD : Hid (RB w3 w3.heap.size (A3.map fun y => y.add nn) D) := Lib.hid (by rw [HD1.out]; exact HR3.out.dropM (by rw [← HN.out]; exact hgn))
        clear H3
        by_cases hcap : nn = c3
        · have HD0 : Hid (D = []) := Lib.hid (List.length_eq_zero_iff.1 (by rw [← HDL.out]; omega))
          subst hcap
          go_wp2_with fail
          refine (HCl.out A3 0 0 (by rw [HD0.out]; exact RB.empty _ _ _) (by rw [HD0.out]; rfl)).mono ?_
          rintro e w4 ⟨v4, rfl, ho4, hb4⟩
          have h5 := ((H4.out.newOb ho4 hb4).swap)
          have hk := h5.blk
          have p0 : w4.cell? ⟨g, 0, none⟩ = some (.slice A3 n nn) := by rw [hk.cell 0, HN.out]; rfl
          have p2 : w4.cell? ⟨g, 2, none⟩ = some (.int .i64 0) := by rw [hk.cell 2]; rfl
          have q0 := hk.frozen 0
          obtain ⟨A4, c4, rfl, -, -, -, -⟩ := ho4.form
          have H5 := Lib.hid (rdr_shut HX3.out (h5.setBlk 0 (.slice A4 D.length c4)).bring2.drop)
          clear h5 hk ho4 hb4 k0 k2 l0 H4
          go_wp2_with fail
          go_ret
          exact ⟨rfl, H5.out⟩
        · have hcap' : ¬ c3 = nn := fun h => hcap h.symm
          go_wp2_with fail
          refine (HCl.out _ _ _ HRD.out HDL.out).mono ?_
          rintro e w4 ⟨v4, rfl, ho4, hb4⟩
          have h5 := ((H4.out.newOb ho4 hb4).swap)
          have hk := h5.blk
          have p0 : w4.cell? ⟨g, 0, none⟩ = some (.slice A3 n c3) := by rw [hk.cell 0, HN.out]; rfl
          have p2 : w4.cell? ⟨g, 2, none⟩ = some (.int .i64 0) := by rw [hk.cell 2]; rfl
          have q0 := hk.frozen 0
          obtain ⟨A4, c4, rfl, -, -, -, -⟩ := ho4.form
          have H5 := Lib.hid (rdr_shut HX3.out (h5.setBlk 0 (.slice A4 D.length c4)).bring2.drop)
          clear h5 hk ho4 hb4 k0 k2 l0 H4
          go_wp2_with fail
          go_ret
          exact ⟨rfl, H5.out⟩
    · have HD1 : Hid (D = []) := Lib.hid (by rw [HD.out, if_neg hee])
      have h5 := ((H4.out.setBlk 0 (.slice none 0 0)).swap.drop.nilOb 5).swap
      have H5 := Lib.hid (rdr_shut HX3.out h5)
      clear h5 H4 HR3 HX3 hbc3 hgn H3
      go_wp2_with fail
      go_ret
      refine ⟨rfl, ?_⟩
      rw [HD1.out]
      exact H5.out
  · have e1 : fedE err bs ck = err := if_neg he
    have e2 : fedB err bs ck = bs := if_neg he
    have e3 : fedF err bs ck Fs = Fs := if_neg he
    rw [e1, e2, e3]
    clear h h1 hX hrb hr hT k0 k1 e1 e2 e3
    go_enter Tryd.func24, Tryd.ntmps24
    go_wp2_with fail
    go_ret
    exact ⟨rfl, HH.out⟩
end

end Go.Proofs.YtkdlehekignnhaaDoor
