/- The document's Weight. -/
import Derived.Test.YthnaipgdjbaebaaGreatGrEls
import Derived.Test.YthnaipgdjbaebaaGreatValEnc4
import Derived.IntWalk
namespace Go.Proofs.YthnaipgdjbaebaaGreat
open Go.RowKit
set_option linter.unusedVariables false

theorem wrap64_left (a b : Int) : wrap64 (wrap64 a + b) = wrap64 (a + b) := by unfold wrap64; omega
theorem wrap64_right (a b : Int) : wrap64 (a + wrap64 b) = wrap64 (a + b) := by unfold wrap64; omega
theorem wrap64_both (a b : Int) : wrap64 (wrap64 a + wrap64 b) = wrap64 (a + b) := by unfold wrap64; omega
/-- the bytes of all values -/
def Wt (L : List Pv) : Int := (L.map fun p => ((encV p.val).length : Int)).sum
theorem Wt_append (a b : List Pv) : Wt (a ++ b) = Wt a + Wt b := by simp [Wt]
theorem Wt_one (p : Pv) : Wt [p] = ((encV p.val).length : Int) := by simp [Wt]
theorem weight_fold : ∀ (L : List Pv) (s : Int), L.foldl (fun s p => wrap64 (s + ((encV p.val).length : Int))) (wrap64 s) = wrap64 (s + Wt L)
  | [], s => by simp [Wt]
  | p :: L, s => by
    rw [List.foldl_cons, wrap64_left, weight_fold L]
    congr 1
    simp only [Wt, List.map_cons, List.sum_cons]
    omega
theorem weightP_eq (L : List Pv) : weightP L = wrap64 (Wt L) := by
  have h := weight_fold L 0
  have h0 : wrap64 0 = 0 := by unfold wrap64; omega
  rw [h0, Int.zero_add] at h
  exact h

set_option maxRecDepth 100000 in
set_option maxHeartbeats 1000000 in
theorem refPropsWeight_any (A : Option Addr) (cap B : Nat) (L : List Pv) (w : World) (h : PropsR w B A L) (hB : B ≤ w.heap.size) (hl : L.length ≤ 140737488351232) :
    Calls Tryz.prog 59 #[.slice A L.length cap] w fun e w' => e = .returned (.int .i64 (wrap64 (Wt L))) ∧ Below w.heap.size w w' := by
  have H := Lib.hid h
  have h0 : wrap64 0 = 0 := by unfold wrap64; omega
  have H0 := Lib.hid h0
  clear h h0
  go_enter Tryz.func59, Tryz.ntmps59
  go_wp2
  go_loopw [3, 4] (fun s i wr => ∃ (k : Nat) (t : Int), k ≤ L.length ∧ i = .int .i64 k ∧ s = .int .i64 t ∧ t = wrap64 (Wt (L.take k)) ∧ Below w.heap.size w wr) (fun _ i _ => L.length - (intOf i).toNat)
  case atStart => exact ⟨0, 0, Nat.zero_le _, rfl, rfl, by simp [Wt, H0.out], Below.refl _ _⟩
  case round =>
    obtain ⟨k, t, hk, rfl, rfl, ht, hbw⟩ := hrel
    by_cases hlt : k < L.length
    · obtain ⟨p, hp⟩ : ∃ p, L[k]? = some p := ⟨_, List.getElem?_eq_getElem hlt⟩
      have htk : L.take (k + 1) = L.take k ++ [p] := by
        rw [List.take_succ_eq_append_getElem hlt]
        rw [List.getElem?_eq_getElem hlt] at hp
        injection hp with hp
        rw [hp]
      have hsz := hbw.size
      obtain ⟨b, off, rfl, hbB, A2, c2, A3, c3, hc, hr1, hr2, hv, hks⟩ := (PropsR.below H.out (hbw.mono hB)) k _ hp
      obtain ⟨q0, q1, q2, q3, q4, q5⟩ := prop_cells hc
      have HE := refEncode_any p.val _ B wr ⟨A2, c2, A3, c3, rfl, hr1, hr2, hv⟩ (by omega)
      obtain ⟨EN, hEN⟩ : ∃ n, n = encV p.val := ⟨_, rfl⟩
      rw [← hEN] at HE
      have Hs : Hid (wrap64 (t + (EN.length : Int)) = wrap64 (Wt (L.take (k + 1)))) := Lib.hid (by rw [htk, Wt_append, Wt_one, ht, wrap64_left, hEN])
      obtain ⟨key, ⟨vk, vn, vs, ns, ts⟩⟩ := p
      simp only [vagg] at q0 q1 q2 q3 q4 q5 HE
      have HE := Lib.hid HE
      have hi0 : (0 : Int) ≤ (k : Int) := by omega
      have hi1 : (k : Int) < (L.length : Int) := by omega
      clear hc hr1 hr2 hv hp htk ht hEN
      go_wp2_with fail
      refine HE.out.mono ?_
      rintro e w8 ⟨v8, rfl, ho, hb8⟩
      obtain ⟨A8, c8, rfl, -, -, -, -⟩ := ho.form
      have hb9 := hbw.trans (hb8.mono hsz)
      clear ho hb8
      go_wp2
      go_roundw
      case rel => exact ⟨k + 1, _, by omega, by go_num, rfl, Hs.out, hb9⟩
      case measure => simp [intOf]; omega
    · obtain rfl : k = L.length := by omega
      rw [List.take_length] at ht
      have Ht := Lib.hid ht
      clear ht
      go_wp2
      go_ret
      exact ⟨by rw [← Ht.out]; rfl, hbw⟩

set_option maxRecDepth 100000 in
set_option maxHeartbeats 1000000 in
theorem refWeight_any (g : Gv) (A A' : Option Addr) (c c' B : Nat) (w : World) (h : GR w B g A A') (hB : B ≤ w.heap.size) :
    Calls Tryz.prog 31 #[gagg g A c A' c'] w fun e w' => e = .returned (.int .i64 (weightP (gprops g))) ∧ Below w.heap.size w w' := by
  obtain ⟨h1, h2, hl1, hl2⟩ := h
  have hw0 : weightP (gprops g) = wrap64 (Wt (g.nodes.flatMap (·.props)) + Wt (g.rels.flatMap (·.props))) := by rw [weightP_eq, gprops, Wt_append]
  rw [hw0]
  obtain ⟨N, R⟩ := g
  simp only [gagg] at h1 h2 hl1 hl2 ⊢
  obtain ⟨wo, hwo⟩ : ∃ x, x = w.alloc (.cells #[.slice A N.length c, .slice A' R.length c'] 27) := ⟨_, rfl⟩
  have hbo : Below w.heap.size w wo := by rw [hwo]; exact (Below.refl _ _).alloc (Nat.le_refl _) _
  have Bg : Blk wo w.heap.size 27 #[.slice A N.length c, .slice A' R.length c'] := by rw [hwo]; exact Blk.new _ _ _
  have hlo := Bg.lt
  have H1 := Lib.hid h1
  have H2 := Lib.hid h2
  have HF : Hid (∀ w', Below wo.heap.size wo w' → w'.cell? ⟨w.heap.size, 0, none⟩ = some (.slice A N.length c) ∧ w'.cell? ⟨w.heap.size, 1, none⟩ = some (.slice A' R.length c')) := Lib.hid fun w' hb => by
    have b := Bg.below hb hlo
    exact ⟨by rw [b.cell]; rfl, by rw [b.cell]; rfl⟩
  have HB : Hid (∀ w', Below wo.heap.size wo w' → Below w.heap.size w w') := Lib.hid fun w' hb' => hbo.trans (hb'.mono hbo.size)
  have hso := hbo.size
  have h0 : wrap64 0 = 0 := by unfold wrap64; omega
  have H0 := Lib.hid h0
  have Hwo := Lib.hid hwo
  obtain ⟨c0, c1⟩ := HF.out wo (Below.refl _ _)
  clear h1 h2 h0 hbo Bg hwo hw0
  go_enter Tryz.func31, Tryz.ntmps31
  go_wp2
  rw [← Hwo.out]
  go_loopw [3, 4] (fun s i wr => ∃ (k : Nat) (t : Int), k ≤ N.length ∧ i = .int .i64 k ∧ s = .int .i64 t ∧ t = wrap64 (Wt ((N.take k).flatMap (·.props))) ∧ Below wo.heap.size wo wr) (fun _ i _ => N.length - (intOf i).toNat)
  case atStart => exact ⟨0, 0, Nat.zero_le _, rfl, rfl, by simp [Wt, H0.out], Below.refl _ _⟩
  case round =>
    obtain ⟨k, t, hk, rfl, rfl, ht, hbw⟩ := hrel
    clear c0 c1
    obtain ⟨c0, c1⟩ := HF.out wr hbw
    have hww := HB.out wr hbw
    have hsz := hww.size
    by_cases hlt : k < N.length
    · obtain ⟨p, hp⟩ : ∃ p, N[k]? = some p := ⟨_, List.getElem?_eq_getElem hlt⟩
      have htk : N.take (k + 1) = N.take k ++ [p] := by
        rw [List.take_succ_eq_append_getElem hlt]
        rw [List.getElem?_eq_getElem hlt] at hp
        injection hp with hp
        rw [hp]
      obtain ⟨b, off, rfl, hbB, A2, c2, A3, c3, hc, hr1, hr2, -, -, hpl, -⟩ := (NodesR.below H1.out (hww.mono hB)) k _ hp
      obtain ⟨q0, q1, q2⟩ := node_cells hc
      have HE := refPropsWeight_any A3 c3 B p.props wr hr2 (by omega) hpl
      obtain ⟨e0, he0⟩ : ∃ n, n = wrap64 (Wt p.props) := ⟨_, rfl⟩
      rw [← he0] at HE
      have Hs : Hid (wrap64 (t + e0) = wrap64 (Wt ((N.take (k + 1)).flatMap (·.props)))) := Lib.hid (by
        have hfm : (N.take (k + 1)).flatMap (·.props) = (N.take k).flatMap (·.props) ++ p.props := by rw [htk, List.flatMap_append]; simp
        rw [hfm, Wt_append, ht, he0, wrap64_both])
      obtain ⟨pid, pl, pp⟩ := p
      simp only at q0 q1 q2 HE
      have HE := Lib.hid HE
      have hi0 : (0 : Int) ≤ (k : Int) := by omega
      have hi1 : (k : Int) < (N.length : Int) := by omega
      clear hc hr1 hr2 hp htk ht he0 hww
      go_wp2_with fail
      refine HE.out.mono ?_
      rintro e w8 ⟨rfl, hb8⟩
      have hb9 := hbw.trans (hb8.mono hbw.size)
      clear hb8 c0 c1
      go_wp2
      go_roundw
      case rel => exact ⟨k + 1, _, by omega, by go_num, rfl, Hs.out, hb9⟩
      case measure => simp [intOf]; omega
    · obtain rfl : k = N.length := by omega
      rw [List.take_length] at ht
      have Ht := Lib.hid ht
      obtain ⟨wm, hwm⟩ : ∃ x : World, x = wr := ⟨_, rfl⟩
      rw [← hwm]
      rw [← hwm] at hbw c0 c1
      clear ht hwm hww hsz
      go_wp2
      clear c0 c1
      go_loopw [3, 5] (fun s i wr => ∃ (k : Nat) (u : Int), k ≤ R.length ∧ i = .int .i64 k ∧ s = .int .i64 u ∧ u = wrap64 (Wt (N.flatMap (·.props)) + Wt ((R.take k).flatMap (·.props))) ∧ Below wo.heap.size wo wr) (fun _ i _ => R.length - (intOf i).toNat)
      case atStart => exact ⟨0, t, Nat.zero_le _, rfl, rfl, by rw [Ht.out]; simp [Wt], hbw⟩
      case round =>
        obtain ⟨k, u, hk, rfl, rfl, hu, hbw⟩ := hrel
        obtain ⟨c0, c1⟩ := HF.out wr hbw
        have hww := HB.out wr hbw
        have hsz := hww.size
        by_cases hlt : k < R.length
        · obtain ⟨p, hp⟩ : ∃ p, R[k]? = some p := ⟨_, List.getElem?_eq_getElem hlt⟩
          have htk : R.take (k + 1) = R.take k ++ [p] := by
            rw [List.take_succ_eq_append_getElem hlt]
            rw [List.getElem?_eq_getElem hlt] at hp
            injection hp with hp
            rw [hp]
          obtain ⟨b, off, rfl, hbB, A3, c3, hc, hr2, -, -, -, -, hpl⟩ := (RelsR.below H2.out (hww.mono hB)) k _ hp
          obtain ⟨q0, q1, q2, q3, q4⟩ := rel_cells hc
          have HE := refPropsWeight_any A3 c3 B p.props wr hr2 (by omega) hpl
          obtain ⟨e0, he0⟩ : ∃ n, n = wrap64 (Wt p.props) := ⟨_, rfl⟩
          rw [← he0] at HE
          have Hs : Hid (wrap64 (u + e0) = wrap64 (Wt (N.flatMap (·.props)) + Wt ((R.take (k + 1)).flatMap (·.props)))) := Lib.hid (by
            have hfm : (R.take (k + 1)).flatMap (·.props) = (R.take k).flatMap (·.props) ++ p.props := by rw [htk, List.flatMap_append]; simp
            rw [hfm, Wt_append, hu, he0, wrap64_both, Int.add_assoc])
          obtain ⟨pid, pt, ps, pd, pp⟩ := p
          simp only at q0 q1 q2 q3 q4 HE
          have HE := Lib.hid HE
          have hi0 : (0 : Int) ≤ (k : Int) := by omega
          have hi1 : (k : Int) < (R.length : Int) := by omega
          clear hc hr2 hp htk hu he0 hww
          go_wp2_with fail
          refine HE.out.mono ?_
          rintro e w8 ⟨rfl, hb8⟩
          have hb9 := hbw.trans (hb8.mono hbw.size)
          clear hb8 c0 c1
          go_wp2
          go_roundw
          case rel => exact ⟨k + 1, _, by omega, by go_num, rfl, Hs.out, hb9⟩
          case measure => simp [intOf]; omega
        · obtain rfl : k = R.length := by omega
          rw [List.take_length] at hu
          have Hu := Lib.hid hu
          clear hu
          go_wp2
          go_ret
          exact ⟨by rw [← Hu.out]; rfl, hww⟩

end Go.Proofs.YthnaipgdjbaebaaGreat
