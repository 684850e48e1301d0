/- recfile: one call of the script on both files. -/
import Derived.Test.YtcclcecjidlojaaDoorRfStepA
import Derived.Deep.QuietTactic
import Derived.BigQuiet
import Derived.Deep.Cut
namespace Go.Proofs.YtcclcecjidlojaaDoor
open Go.RowKit
set_option linter.unusedVariables false
set_option linter.unusedSimpArgs false
/-- both files behind a call -/
def Stepped (g m k v s : Nat) (l : List Ass) (w0 : World) (e : Ending) (w' : World) : Prop :=
  e = .returned (.bool true) ∧ ∃ L' lw', Bo L' s lw' ∧ St Zf (RfA g (k : Int) (v : Int) (s : Int) (recB L') ((liveL L' L'.length : Nat) : Int) (lw' : Int) :: DfA m (k : Int) (v : Int) (s : Int) L' :: l) w0 w'
theorem opCells3 {S : Fp} {l : List Ass} {w0 w : World} {g t : Nat} {a b : Int} {x : Value} (h : St S (BlkA g t #[.int .i64 a, .int .i64 b, x] :: l) w0 w) : w.cell? ⟨g, 0, none⟩ = some (.int .i64 a) ∧ w.cell? ⟨g, 1, none⟩ = some (.int .i64 b) ∧ w.cell? ⟨g, 2, none⟩ = some x := by
  have := h.blk.cell
  exact ⟨by rw [this]; rfl, by rw [this]; rfl, by rw [this]; rfl⟩
/-- Get of the program's, of whatever id -/
theorem rfGet_st {S0 : Fp} {l : List Ass} [Stable (Sep l)] {w0 w : World} {g s lw : Nat} {K V lv lo : Int} {L : List Rc} (h : St S0 (RfA g K V (s : Int) (recB L) lv lo :: l) w0 w) (hb : Bo L s lw) (hs : 2 ≤ s ∧ s ≤ 255) (id : Int) :
    Calls Tryd.prog 29 #[.pointer (some ⟨g, 0, none⟩), .int .i64 id] w fun e w' => ∃ x, e = .returned (.tuple #[x, .int .i64 (getE L id)]) ∧ St S0 (ObA 5 x (getL L id) :: RfA g K V (s : Int) (recB L) lv lo :: l) w0 w' := by
  cases hu : usedL L id
  · have hg : getL L id = [] := by unfold getL; rw [if_neg (by rw [hu]; decide)]
    have he : getE L id = 3 := by unfold getE; rw [if_neg (by rw [hu]; decide)]
    rw [hg, he]
    refine (rfGet_no h hs.1 hs.2 hb.rw_.len hb.rw_.few (by rw [usedB_recB hb.rcs]; exact hu)).mono ?_
    rintro e w' ⟨rfl, h2⟩
    exact ⟨_, rfl, h2.nilOb _⟩
  · obtain ⟨k, rfl, hk, hku⟩ := usedL_nat hu
    have hg : getL L (k : Int) = recD (recB L) s k := by unfold getL; rw [if_pos hu, recB_data hb.rcs hk]; rfl
    have he : getE L (k : Int) = 0 := by unfold getE; rw [if_pos hu]
    rw [hg, he]
    refine (rfGet_ok h hs.1 hs.2 hb.rw_.len hb.rw_.few (by rw [usedB_recB hb.rcs]; exact hu)).mono ?_
    rintro e w' ⟨x, rfl, h2⟩
    exact ⟨x, rfl, h2⟩
theorem Bo.data {L : List Rc} {s lw : Nat} (h : Bo L s lw) (hs : s ≤ 255) : ∀ r ∈ L, r.data.length ≤ 1000 := fun r hr => by
  have := (h.rcs r hr).1
  omega
theorem Bo.getLen {L : List Rc} {s lw : Nat} (h : Bo L s lw) (hs : s ≤ 255) (id : Int) : (getL L id).length ≤ 1000 := by
  unfold getL
  split
  · rename_i hu
    obtain ⟨k, rfl, hk, -⟩ := usedL_nat hu
    exact h.data hs _ (by show nthD L k ∈ L; rw [nthD_lt hk]; exact List.getElem_mem hk)
  · simp
theorem Bo.bytesLen {L : List Rc} {s lw : Nat} (h : Bo L s lw) (hs : s ≤ 255) (k v : Nat) : (rfBytes k v s L.length (recB L)).length ≤ 20000000 := by
  have h1 := there_len (k := k) (v := v) h.rw_.len h.rw_.few hs
  rw [h1.1]
  have := h1.2
  omega
set_option maxRecDepth 100000 in
set_option maxHeartbeats 1000000 in
theorem step_get {w0 w : World} {l : List Ass} [Stable (Sep l)] {g m k v s lw : Nat} {L : List Rc} {kd id : Int} {X : Option Addr} {c : Nat} {D : List Nat}
    (h : St Zf (RfA g (k : Int) (v : Int) (s : Int) (recB L) ((liveL L L.length : Nat) : Int) (lw : Int) :: DfA m (k : Int) (v : Int) (s : Int) L :: l) w0 w) (hb : Bo L s lw) (hs : 2 ≤ s ∧ s ≤ 255) (hk : k < 256 ∧ v < 256) (hT : TabW w0) (hX : RB w0 w0.heap.size X D) (hD : D.length ≤ 140737488351232) (hc : D.length ≤ c) (hkd : bits .and .i64 kd 7 = 6) : Calls Tryd.prog 22 #[.pointer (some ⟨g, 0, none⟩), .pointer (some ⟨m, 0, none⟩), .agg #[.int .i64 kd, .int .i64 id, .slice X D.length c]] w (Stepped g m k v s l w0) := by
  have h6 := (h.newBlk 44 #[.int .i64 kd, .int .i64 id, .slice X D.length c]).back2
  obtain ⟨p0, p1, p2⟩ := opCells3 h6.bring2
  obtain ⟨G, hG⟩ : ∃ G, G = getL L id := ⟨_, rfl⟩
  obtain ⟨E, hE⟩ : ∃ E, E = getE L id := ⟨_, rfl⟩
  have hg1 := rfGet_st h6 hb hs id
  have HGL := hb.getLen hs.2 id
  have HG2 := fun (l : List Ass) (_ : Stable (Sep l)) (w' : World) (h' : St Zf (DfA m (k : Int) (v : Int) (s : Int) L :: l) w0 w') => refGet_st h' (by have := hb.rw_.few; omega) id (hb.data hs.2)
  rw [← hG, ← hE] at hg1 HG2
  rw [← hG] at HGL
  have HG1 := Lib.hid hg1
  have HG2 := Lib.hid HG2
  have HGM : Hid (G.length ≤ maxLen) := Lib.hid (by unfold maxLen; omega)
  have HGB : Hid (G.length ≤ 140737488351232) := Lib.hid (by omega)
  have HB := Lib.hid hb
  have e0 : (E == E) = true := by simp
  clear h h6 hb hs hk hT hX hD hc hG hE hg1 HGL
  go_enter Tryd.func22, Tryd.ntmps22
  go_upto_region 27 with (go_at_call 29; refine (HG1.out).mono ?_; rintro e w2 ⟨x2, rfl, h2⟩; obtain ⟨A2, c2, rfl, -, -, -, -⟩ := h2.ob.form; have H2 := Lib.hid h2; obtain ⟨p3, p4, p5⟩ := opCells3 h2.bring3; clear h2)
  clear p0 p1 p2
  go_wp2_with (first
    | (go_at_call 55; refine (HG2.out _ inferInstance _ H2.out.bring2).mono ?_; rintro e w3 ⟨x3, rfl, h3⟩; obtain ⟨A3, c3, rfl, -, -, -, -⟩ := h3.ob.form; have H3 := Lib.hid h3; clear h3)
    | (go_at_call 15; refine (same_yes A2 A3 _ c2 c3 _ _ G w3 H3.out.bring2.ob.reads.2.1 H3.out.ob.reads.2.1 rfl HGM.out).mono ?_; rintro e w4 ⟨rfl, q4, hw4⟩; have h4 := H3.out.drewN q4; rw [← hw4] at h4; have H4 := Lib.hid h4; clear h4 hw4)
    | (go_at_call 21; refine (spoil9 H4.out.bring2 rfl HGB.out).mono ?_; rintro e w5 ⟨rfl, h5⟩; have H5 := Lib.hid h5; clear h5))
  go_ret
  exact ⟨rfl, L, lw, HB.out, (H5.out.drop.swap.bring2).drop⟩
set_option maxRecDepth 100000 in
set_option maxHeartbeats 1000000 in
theorem step_bytes {w0 w : World} {l : List Ass} [Stable (Sep l)] {g m k v s lw : Nat} {L : List Rc} {kd id : Int} {X : Option Addr} {c : Nat} {D : List Nat}
    (h : St Zf (RfA g (k : Int) (v : Int) (s : Int) (recB L) ((liveL L L.length : Nat) : Int) (lw : Int) :: DfA m (k : Int) (v : Int) (s : Int) L :: l) w0 w) (hb : Bo L s lw) (hs : 2 ≤ s ∧ s ≤ 255) (hk : k < 256 ∧ v < 256) (hT : TabW w0) (hX : RB w0 w0.heap.size X D) (hD : D.length ≤ 140737488351232) (hc : D.length ≤ c) (hkd : bits .and .i64 kd 7 = 7) : Calls Tryd.prog 22 #[.pointer (some ⟨g, 0, none⟩), .pointer (some ⟨m, 0, none⟩), .agg #[.int .i64 kd, .int .i64 id, .slice X D.length c]] w (Stepped g m k v s l w0) := by
  have h6 := (h.newBlk 44 #[.int .i64 kd, .int .i64 id, .slice X D.length c]).back2
  obtain ⟨p0, p1, p2⟩ := opCells3 h6.bring2
  have HBB := fun (l : List Ass) (_ : Stable (Sep l)) (w' : World) (h' : St Zf (RfA g (k : Int) (v : Int) (s : Int) (recB L) ((liveL L L.length : Nat) : Int) (lw : Int) :: l) w0 w') => rfBytes_any h' hs.1 hs.2 hb.rw_.len hb.rw_.few hk.1 hk.2 (hT.below h'.bel hT.1)
  have HRB := fun (l : List Ass) (_ : Stable (Sep l)) (w' : World) (h' : St Zf (DfA m (k : Int) (v : Int) (s : Int) L :: l) w0 w') => refBytes_any h' hs.1 hs.2 hk.1 hk.2 hb.rw_.few hb.rcs
  have hfl := hb.bytesLen hs.2 k v
  obtain ⟨F, hF⟩ : ∃ F, F = rfBytes k v s L.length (recB L) := ⟨_, rfl⟩
  rw [← hF] at HBB HRB hfl
  have HBB := Lib.hid HBB
  have HRB := Lib.hid HRB
  have HFM : Hid (F.length ≤ maxLen) := Lib.hid (by unfold maxLen; omega)
  have HFB : Hid (F.length ≤ 140737488351232) := Lib.hid (by omega)
  have HB := Lib.hid hb
  have H6 := Lib.hid h6
  clear h h6 hb hs hk hT hX hD hc hF hfl
  go_enter Tryd.func22, Tryd.ntmps22
  go_wp2_with (first
    | (go_at_call 16; refine (HBB.out _ inferInstance _ H2.out.swap).mono ?_; rintro e w3 ⟨x3, rfl, h3⟩; obtain ⟨A3, c3, rfl, -, -, -, -⟩ := h3.ob.form; have H3 := Lib.hid h3; clear h3 H2)
    | (go_at_call 16; refine (HBB.out _ inferInstance _ H6.out).mono ?_; rintro e w2 ⟨x2, rfl, h2⟩; obtain ⟨A2, c2, rfl, -, -, -, -⟩ := h2.ob.form; have H2 := Lib.hid h2; clear h2 H6)
    | (go_at_call 21; refine (spoil9 H3.out.bring2 rfl HFB.out).mono ?_; rintro e w4 ⟨rfl, h4⟩; have H4 := Lib.hid h4; clear h4)
    | (go_at_call 17; refine (HRB.out _ inferInstance _ H4.out.bring2).mono ?_; rintro e w5 ⟨x5, rfl, h5⟩; obtain ⟨A5, c5, rfl, -, -, -, -⟩ := h5.ob.form; have H5 := Lib.hid h5; clear h5)
    | (go_at_call 15; refine (same_yes A3 A5 _ c3 c5 _ _ F w5 H5.out.bring2.ob.reads.2.1 H5.out.ob.reads.2.1 rfl HFM.out).mono ?_; rintro e w7 ⟨rfl, q7, hw7⟩; have h7 := H5.out.drewN q7; rw [← hw7] at h7; have H7 := Lib.hid h7; clear h7 hw7))
  go_ret
  exact ⟨rfl, L, lw, HB.out, (H7.out.drop.swap.drop.swap.bring2).drop⟩
set_option maxRecDepth 100000 in
set_option maxHeartbeats 1000000 in
theorem step_alloc3 {w0 w : World} {l : List Ass} [Stable (Sep l)] {g m k v s lw : Nat} {L : List Rc} {kd id : Int} {X : Option Addr} {c : Nat} {D : List Nat}
    (h : St Zf (RfA g (k : Int) (v : Int) (s : Int) (recB L) ((liveL L L.length : Nat) : Int) (lw : Int) :: DfA m (k : Int) (v : Int) (s : Int) L :: l) w0 w) (hb : Bo L s lw) (hs : 2 ≤ s ∧ s ≤ 255) (hk : k < 256 ∧ v < 256) (hT : TabW w0) (hX : RB w0 w0.heap.size X D) (hD : D.length ≤ 140737488351232) (hc : D.length ≤ c) (hkd : bits .and .i64 kd 7 = 3) : Calls Tryd.prog 22 #[.pointer (some ⟨g, 0, none⟩), .pointer (some ⟨m, 0, none⟩), .agg #[.int .i64 kd, .int .i64 id, .slice X D.length c]] w (Stepped g m k v s l w0) := by
  have h6 := (h.newBlk 44 #[.int .i64 kd, .int .i64 id, .slice X D.length c]).back2
  obtain ⟨p0, p1, p2⟩ := opCells3 h6.bring2
  have HLL : Hid (L.length ≤ 65536) := Lib.hid hb.rw_.few
  have HS := Lib.hid hs
  have HB := Lib.hid hb
  by_cases hfull : liveL L L.length = 65536
  · have hall := hb.full hfull
    have h7 := h6
    rw [hfull] at h7
    have h7 : St Zf (RfA g (k : Int) (v : Int) (s : Int) (recB L) 65536 (lw : Int) :: _) w0 _ := h7
    have HA := Lib.hid (rfAlloc_full (n := 0) h7)
    have HR := Lib.hid (refAlloc_full h6.swap hb.rw_.few hall)
    have H6 := Lib.hid h6
    clear h h6 h7 hb hs hk hT hX hD hc hfull hall
    go_enter Tryd.func22, Tryd.ntmps22
    go_wp2_with (first
      | (go_at_call 24; refine (HA.out).mono ?_; rintro e w2 ⟨rfl, rfl⟩)
      | (go_at_call 54; refine (HR.out).mono ?_; rintro e w2 ⟨rfl, rfl⟩))
    go_ret
    exact ⟨rfl, L, lw, HB.out, H6.out.bring2.drop⟩
  · have hle := liveL_le' L
    have hfew := hb.rw_.few
    have HA := Lib.hid (rfAlloc_ok h6 hs.1 hs.2 hb.rw_.len hb.rw_.few (by omega) (by omega) hb.rw_.low)
    have HNF := Lib.hid hfull
    clear h h6 hb hs hk hT hX hD hc hfull hle hfew
    go_enter Tryd.func22, Tryd.ntmps22
    go_wp2_with (first
      | (go_at_call 24; refine (HA.out).mono ?_; rintro e w2 ⟨F, h1, h2, h3, h4, rfl, h5⟩; obtain ⟨b1, b2, b3, b4, b5, b6⟩ := HB.out.alloc (Nat.lt_of_lt_of_le (by decide) HS.out.1) h1 h2 h3 h4 HNF.out; rw [b3, b2] at h5; have H5 := Lib.hid h5; have HB1 := Lib.hid b1; have HR := Lib.hid (refAlloc_ok h5.swap HS.out.1 HS.out.2 HLL.out b4 b5 b6); clear h1 h2 h3 h4 h5 b1 b2 b3 b4 b5 b6)
      | (go_at_call 54; refine (HR.out).mono ?_; rintro e w3 ⟨rfl, h6⟩; have H6 := Lib.hid h6; clear h6))
    go_ret
    exact ⟨rfl, _, _, HB1.out, H6.out.bring2.drop.swap⟩
set_option maxRecDepth 100000 in
set_option maxHeartbeats 1000000 in
theorem step_alloc4 {w0 w : World} {l : List Ass} [Stable (Sep l)] {g m k v s lw : Nat} {L : List Rc} {kd id : Int} {X : Option Addr} {c : Nat} {D : List Nat}
    (h : St Zf (RfA g (k : Int) (v : Int) (s : Int) (recB L) ((liveL L L.length : Nat) : Int) (lw : Int) :: DfA m (k : Int) (v : Int) (s : Int) L :: l) w0 w) (hb : Bo L s lw) (hs : 2 ≤ s ∧ s ≤ 255) (hk : k < 256 ∧ v < 256) (hT : TabW w0) (hX : RB w0 w0.heap.size X D) (hD : D.length ≤ 140737488351232) (hc : D.length ≤ c) (hkd : bits .and .i64 kd 7 = 4) : Calls Tryd.prog 22 #[.pointer (some ⟨g, 0, none⟩), .pointer (some ⟨m, 0, none⟩), .agg #[.int .i64 kd, .int .i64 id, .slice X D.length c]] w (Stepped g m k v s l w0) := by
  have h6 := (h.newBlk 44 #[.int .i64 kd, .int .i64 id, .slice X D.length c]).back2
  obtain ⟨p0, p1, p2⟩ := opCells3 h6.bring2
  have HLL : Hid (L.length ≤ 65536) := Lib.hid hb.rw_.few
  have HS := Lib.hid hs
  have HB := Lib.hid hb
  by_cases hfull : liveL L L.length = 65536
  · have hall := hb.full hfull
    have h7 := h6
    rw [hfull] at h7
    have h7 : St Zf (RfA g (k : Int) (v : Int) (s : Int) (recB L) 65536 (lw : Int) :: _) w0 _ := h7
    have HA := Lib.hid (rfAlloc_full (n := 0) h7)
    have HR := Lib.hid (refAlloc_full h6.swap hb.rw_.few hall)
    have H6 := Lib.hid h6
    clear h h6 h7 hb hs hk hT hX hD hc hfull hall
    go_enter Tryd.func22, Tryd.ntmps22
    go_wp2_with (first
      | (go_at_call 24; refine (HA.out).mono ?_; rintro e w2 ⟨rfl, rfl⟩)
      | (go_at_call 54; refine (HR.out).mono ?_; rintro e w2 ⟨rfl, rfl⟩))
    go_ret
    exact ⟨rfl, L, lw, HB.out, H6.out.bring2.drop⟩
  · have hle := liveL_le' L
    have hfew := hb.rw_.few
    have HA := Lib.hid (rfAlloc_ok h6 hs.1 hs.2 hb.rw_.len hb.rw_.few (by omega) (by omega) hb.rw_.low)
    have HNF := Lib.hid hfull
    clear h h6 hb hs hk hT hX hD hc hfull hle hfew
    go_enter Tryd.func22, Tryd.ntmps22
    go_wp2_with (first
      | (go_at_call 24; refine (HA.out).mono ?_; rintro e w2 ⟨F, h1, h2, h3, h4, rfl, h5⟩; obtain ⟨b1, b2, b3, b4, b5, b6⟩ := HB.out.alloc (Nat.lt_of_lt_of_le (by decide) HS.out.1) h1 h2 h3 h4 HNF.out; rw [b3, b2] at h5; have H5 := Lib.hid h5; have HB1 := Lib.hid b1; have HR := Lib.hid (refAlloc_ok h5.swap HS.out.1 HS.out.2 HLL.out b4 b5 b6); clear h1 h2 h3 h4 h5 b1 b2 b3 b4 b5 b6)
      | (go_at_call 54; refine (HR.out).mono ?_; rintro e w3 ⟨rfl, h6⟩; have H6 := Lib.hid h6; clear h6))
    go_ret
    exact ⟨rfl, _, _, HB1.out, H6.out.bring2.drop.swap⟩
set_option maxRecDepth 100000 in
set_option maxHeartbeats 1000000 in
theorem step_free {w0 w : World} {l : List Ass} [Stable (Sep l)] {g m k v s lw : Nat} {L : List Rc} {kd id : Int} {X : Option Addr} {c : Nat} {D : List Nat}
    (h : St Zf (RfA g (k : Int) (v : Int) (s : Int) (recB L) ((liveL L L.length : Nat) : Int) (lw : Int) :: DfA m (k : Int) (v : Int) (s : Int) L :: l) w0 w) (hb : Bo L s lw) (hs : 2 ≤ s ∧ s ≤ 255) (hk : k < 256 ∧ v < 256) (hT : TabW w0) (hX : RB w0 w0.heap.size X D) (hD : D.length ≤ 140737488351232) (hc : D.length ≤ c) (hkd : bits .and .i64 kd 7 = 5) : Calls Tryd.prog 22 #[.pointer (some ⟨g, 0, none⟩), .pointer (some ⟨m, 0, none⟩), .agg #[.int .i64 kd, .int .i64 id, .slice X D.length c]] w (Stepped g m k v s l w0) := by
  have h6 := (h.newBlk 44 #[.int .i64 kd, .int .i64 id, .slice X D.length c]).back2
  have HLL : Hid (L.length ≤ 65536) := Lib.hid hb.rw_.few
  have HS := Lib.hid hs
  have HB := Lib.hid hb
  have H6 := Lib.hid h6.drew
  cases hu : usedL L id
  case false =>
    obtain ⟨p0, p1, p2⟩ := opCells3 h6.bring2
    have HU := Lib.hid hu
    have HF := Lib.hid (rfFree_no h6.drew hs.1 hs.2 hb.rw_.len hb.rw_.few (by rw [usedB_recB hb.rcs]; exact hu))
    clear h h6 hb hs hk hT hX hD hc hu
    go_enter Tryd.func22, Tryd.ntmps22
    go_upto_region 24 with fail

    refine wp_region_held_drew (S := (fun w' => w'.cell? ⟨w.heap.size, 1, none⟩ = some (.int .i64 id))) (by kernel_rfl) (by (try dsimp only); go_keep) (fun hHeld => ?_)
    refine wpAnyH_take (i := 0) (v := ?_) rfl (by kernel_rfl) (by kernel_rfl) (by kernel_rfl) (fun _ _ _ h => h) (Or.inl ⟨by rfl, ?_⟩) (by assumption) ?_
    rotate_left
    · (intro w hSw; (try dsimp only at hSw); go_simp; try with_reducible rfl)
    try simp only [Act.put, List.getElem_toArray, List.getElem_cons_zero, List.getElem_cons_succ, List.setIfInBounds_toArray, List.set_cons_zero, List.set_cons_succ]
    refine wpAnyH_take (i := 1) (v := ?_) rfl (by kernel_rfl) (by kernel_rfl) (by kernel_rfl) (fun _ _ _ h => h) (Or.inl ⟨by rfl, ?_⟩) (by assumption) ?_
    rotate_left
    · (intro w hSw; (try dsimp only at hSw); go_simp; try with_reducible rfl)
    try simp only [Act.put, List.getElem_toArray, List.getElem_cons_zero, List.getElem_cons_succ, List.setIfInBounds_toArray, List.set_cons_zero, List.set_cons_succ]
    refine wpAnyH_take (i := 2) (v := ?_) rfl (by kernel_rfl) (by kernel_rfl) (by kernel_rfl) (fun _ _ _ h => h) (Or.inl ⟨by rfl, ?_⟩) (by assumption) ?_
    rotate_left
    · (intro w hSw; (try dsimp only at hSw); go_simp; try with_reducible rfl)
    try simp only [Act.put, List.getElem_toArray, List.getElem_cons_zero, List.getElem_cons_succ, List.setIfInBounds_toArray, List.set_cons_zero, List.set_cons_succ]
    refine wpAnyH_take (i := 4) (v := ?_) rfl (by kernel_rfl) (by kernel_rfl) (by kernel_rfl) (fun _ _ _ h => h) (Or.inl ⟨by rfl, ?_⟩) (by assumption) ?_
    rotate_left
    · (intro w hSw; (try dsimp only at hSw); go_simp; try with_reducible rfl)
    try simp only [Act.put, List.getElem_toArray, List.getElem_cons_zero, List.getElem_cons_succ, List.setIfInBounds_toArray, List.set_cons_zero, List.set_cons_succ]
    refine wpAnyH_take (i := 5) (v := ?_) rfl (by kernel_rfl) (by kernel_rfl) (by kernel_rfl) (fun _ _ _ h => h) (Or.inl ⟨by rfl, ?_⟩) (by assumption) ?_
    rotate_left
    · (intro w hSw; (try dsimp only at hSw); go_simp; try with_reducible rfl)
    try simp only [Act.put, List.getElem_toArray, List.getElem_cons_zero, List.getElem_cons_succ, List.setIfInBounds_toArray, List.set_cons_zero, List.set_cons_succ]
    refine wpAnyH_take (i := 6) (v := ?_) rfl (by kernel_rfl) (by kernel_rfl) (by kernel_rfl) (fun _ _ _ h => h) (Or.inl ⟨by rfl, ?_⟩) (by assumption) ?_
    rotate_left
    · (intro w hSw; (try dsimp only at hSw); go_simp; try with_reducible rfl)
    try simp only [Act.put, List.getElem_toArray, List.getElem_cons_zero, List.getElem_cons_succ, List.setIfInBounds_toArray, List.set_cons_zero, List.set_cons_succ]
    refine wpAnyH_ready (rs := [3]) (by kernel_rfl) (by simp) ?_
    refine AllReadyH.cons rfl (fun K hK => ?_) AllReadyH.nil
    go_simp
    go_at_call 25
    refine (HF.out).mono ?_
    rintro e w2 ⟨rfl, h2⟩
    have H2 := Lib.hid h2
    obtain ⟨-, p4, -⟩ := opCells3 h2.bring2
    clear h2
    refine hK.out _ _ (by (try dsimp only); go_keep) (fun hHeld => ?_)
    clear hK K
    try simp only [Act.put, List.getElem_toArray, List.getElem_cons_zero, List.getElem_cons_succ, List.setIfInBounds_toArray, List.set_cons_zero, List.set_cons_succ]
    refine wpAnyH_ready (rs := [7]) (by kernel_rfl) (by simp) ?_
    refine AllReadyH.cons rfl (fun K hK => ?_) AllReadyH.nil
    go_simp
    go_at_call 33
    refine (refFree_no H2.out.swap HLL.out HU.out).mono ?_
    rintro e w3 ⟨rfl, rfl⟩
    refine hK.out _ _ (by (try dsimp only); go_keep) (fun hHeld => ?_)
    clear hK K
    try simp only [Act.put, List.getElem_toArray, List.getElem_cons_zero, List.getElem_cons_succ, List.setIfInBounds_toArray, List.set_cons_zero, List.set_cons_succ]
    refine wpAnyH_take (i := 8) (v := ?_) rfl (by kernel_rfl) (by kernel_rfl) (by kernel_rfl) (fun _ _ _ h => h) (Or.inl ⟨by rfl, ?_⟩) (by assumption) ?_
    rotate_left
    · (intro w hSw; (try dsimp only at hSw); go_simp; try with_reducible rfl)
    try simp only [Act.put, List.getElem_toArray, List.getElem_cons_zero, List.getElem_cons_succ, List.setIfInBounds_toArray, List.set_cons_zero, List.set_cons_succ]
    refine wpAnyH_take (i := 9) (v := ?_) rfl (by kernel_rfl) (by kernel_rfl) (by kernel_rfl) (fun _ _ _ h => h) (Or.inl ⟨by rfl, ?_⟩) (by assumption) ?_
    rotate_left
    · (intro w hSw; (try dsimp only at hSw); go_simp; try with_reducible rfl)
    try simp only [Act.put, List.getElem_toArray, List.getElem_cons_zero, List.getElem_cons_succ, List.setIfInBounds_toArray, List.set_cons_zero, List.set_cons_succ]
    refine wpAnyH_done (by kernel_rfl) ?_ _
    clear p0 p1 p2
    go_wp2
    go_ret
    exact ⟨rfl, L, lw, HB.out, H2.out.bring2.drop⟩

  case true =>
    obtain ⟨x, rfl, hxl, hxu⟩ := usedL_nat hu
    obtain ⟨p0, p1, p2⟩ := opCells3 h6.bring2
    obtain ⟨b1, b2, b3⟩ := hb.free (Nat.lt_of_lt_of_le (by decide) hs.1) hu
    have HU := Lib.hid hu
    have hle := liveL_le' L
    have hfew := hb.rw_.few
    have hf := rfFree_ok h6.drew hs.1 hs.2 hb.rw_.len hb.rw_.few (by rw [usedB_recB hb.rcs]; exact hu) (by omega) (by omega)
    rw [b3, b2] at hf
    have HF := Lib.hid hf
    have HB1 := Lib.hid b1
    clear h h6 hb hs hk hT hX hD hc hu hxl hxu b1 b2 b3 hle hfew hf
    go_enter Tryd.func22, Tryd.ntmps22
    go_upto_region 24 with fail

    refine wp_region_held_drew (S := (fun w' => w'.cell? ⟨w.heap.size, 1, none⟩ = some (.int .i64 (x : Int)))) (by kernel_rfl) (by (try dsimp only); go_keep) (fun hHeld => ?_)
    refine wpAnyH_take (i := 0) (v := ?_) rfl (by kernel_rfl) (by kernel_rfl) (by kernel_rfl) (fun _ _ _ h => h) (Or.inl ⟨by rfl, ?_⟩) (by assumption) ?_
    rotate_left
    · (intro w hSw; (try dsimp only at hSw); go_simp; try with_reducible rfl)
    try simp only [Act.put, List.getElem_toArray, List.getElem_cons_zero, List.getElem_cons_succ, List.setIfInBounds_toArray, List.set_cons_zero, List.set_cons_succ]
    refine wpAnyH_take (i := 1) (v := ?_) rfl (by kernel_rfl) (by kernel_rfl) (by kernel_rfl) (fun _ _ _ h => h) (Or.inl ⟨by rfl, ?_⟩) (by assumption) ?_
    rotate_left
    · (intro w hSw; (try dsimp only at hSw); go_simp; try with_reducible rfl)
    try simp only [Act.put, List.getElem_toArray, List.getElem_cons_zero, List.getElem_cons_succ, List.setIfInBounds_toArray, List.set_cons_zero, List.set_cons_succ]
    refine wpAnyH_take (i := 2) (v := ?_) rfl (by kernel_rfl) (by kernel_rfl) (by kernel_rfl) (fun _ _ _ h => h) (Or.inl ⟨by rfl, ?_⟩) (by assumption) ?_
    rotate_left
    · (intro w hSw; (try dsimp only at hSw); go_simp; try with_reducible rfl)
    try simp only [Act.put, List.getElem_toArray, List.getElem_cons_zero, List.getElem_cons_succ, List.setIfInBounds_toArray, List.set_cons_zero, List.set_cons_succ]
    refine wpAnyH_take (i := 4) (v := ?_) rfl (by kernel_rfl) (by kernel_rfl) (by kernel_rfl) (fun _ _ _ h => h) (Or.inl ⟨by rfl, ?_⟩) (by assumption) ?_
    rotate_left
    · (intro w hSw; (try dsimp only at hSw); go_simp; try with_reducible rfl)
    try simp only [Act.put, List.getElem_toArray, List.getElem_cons_zero, List.getElem_cons_succ, List.setIfInBounds_toArray, List.set_cons_zero, List.set_cons_succ]
    refine wpAnyH_take (i := 5) (v := ?_) rfl (by kernel_rfl) (by kernel_rfl) (by kernel_rfl) (fun _ _ _ h => h) (Or.inl ⟨by rfl, ?_⟩) (by assumption) ?_
    rotate_left
    · (intro w hSw; (try dsimp only at hSw); go_simp; try with_reducible rfl)
    try simp only [Act.put, List.getElem_toArray, List.getElem_cons_zero, List.getElem_cons_succ, List.setIfInBounds_toArray, List.set_cons_zero, List.set_cons_succ]
    refine wpAnyH_take (i := 6) (v := ?_) rfl (by kernel_rfl) (by kernel_rfl) (by kernel_rfl) (fun _ _ _ h => h) (Or.inl ⟨by rfl, ?_⟩) (by assumption) ?_
    rotate_left
    · (intro w hSw; (try dsimp only at hSw); go_simp; try with_reducible rfl)
    try simp only [Act.put, List.getElem_toArray, List.getElem_cons_zero, List.getElem_cons_succ, List.setIfInBounds_toArray, List.set_cons_zero, List.set_cons_succ]
    refine wpAnyH_ready (rs := [3]) (by kernel_rfl) (by simp) ?_
    refine AllReadyH.cons rfl (fun K hK => ?_) AllReadyH.nil
    go_simp
    go_at_call 25
    refine (HF.out).mono ?_
    rintro e w2 ⟨rfl, h2⟩
    have H2 := Lib.hid h2
    obtain ⟨-, p4, -⟩ := opCells3 h2.bring2
    clear h2
    refine hK.out _ _ (by (try dsimp only); go_keep) (fun hHeld => ?_)
    clear hK K
    try simp only [Act.put, List.getElem_toArray, List.getElem_cons_zero, List.getElem_cons_succ, List.setIfInBounds_toArray, List.set_cons_zero, List.set_cons_succ]
    refine wpAnyH_ready (rs := [7]) (by kernel_rfl) (by simp) ?_
    refine AllReadyH.cons rfl (fun K hK => ?_) AllReadyH.nil
    go_simp
    go_at_call 33
    refine (refFree_ok H2.out.swap HS.out.1 HS.out.2 HLL.out HU.out).mono ?_
    rintro e w3 ⟨rfl, h3⟩
    have H3 := Lib.hid h3
    obtain ⟨-, p5, -⟩ := opCells3 h3.bring2
    clear h3
    refine hK.out _ _ (by (try dsimp only); go_keep) (fun hHeld => ?_)
    clear hK K
    try simp only [Act.put, List.getElem_toArray, List.getElem_cons_zero, List.getElem_cons_succ, List.setIfInBounds_toArray, List.set_cons_zero, List.set_cons_succ]
    refine wpAnyH_take (i := 8) (v := ?_) rfl (by kernel_rfl) (by kernel_rfl) (by kernel_rfl) (fun _ _ _ h => h) (Or.inl ⟨by rfl, ?_⟩) (by assumption) ?_
    rotate_left
    · (intro w hSw; (try dsimp only at hSw); go_simp; try with_reducible rfl)
    try simp only [Act.put, List.getElem_toArray, List.getElem_cons_zero, List.getElem_cons_succ, List.setIfInBounds_toArray, List.set_cons_zero, List.set_cons_succ]
    refine wpAnyH_take (i := 9) (v := ?_) rfl (by kernel_rfl) (by kernel_rfl) (by kernel_rfl) (fun _ _ _ h => h) (Or.inl ⟨by rfl, ?_⟩) (by assumption) ?_
    rotate_left
    · (intro w hSw; (try dsimp only at hSw); go_simp; try with_reducible rfl)
    try simp only [Act.put, List.getElem_toArray, List.getElem_cons_zero, List.getElem_cons_succ, List.setIfInBounds_toArray, List.set_cons_zero, List.set_cons_succ]
    refine wpAnyH_done (by kernel_rfl) ?_ _
    clear p0 p1 p2
    go_wp2
    go_ret
    exact ⟨rfl, _, _, HB1.out, H3.out.bring2.drop.swap⟩
end Go.Proofs.YtcclcecjidlojaaDoor
