/- recfile: the document's Open. -/
import Derived.Test.YtcclcecjidlojaaDoorRfD4
import Derived.Deep.QuietTactic
import Derived.BigQuiet
import Derived.Deep.Cut
import Derived.Deep.CutRange
namespace Go.Proofs.YtcclcecjidlojaaDoor
open Go.RowKit
set_option linter.unusedVariables false
set_option linter.unusedSimpArgs false
theorem hd_cut (bs : List Nat) (o d : Nat) (h : o + d ≤ 16) : (bs.take (o + d)).drop o = ((bs.take 16).drop o).take d := by
  rw [List.drop_take, List.drop_take, List.take_take, show o + d - o = d by omega, Nat.min_eq_left (by omega)]
theorem recCells {S0 : Fp} {l : List Ass} {w0 w : World} {g t : Nat} {x y : Value} (h : St S0 (BlkA g t #[x, y] :: l) w0 w) : w.cell? ⟨g, 0, none⟩ = some x ∧ w.cell? ⟨g, 1, none⟩ = some y := by
  have := h.blk.cell
  exact ⟨by rw [this]; rfl, by rw [this]; rfl⟩
theorem recFrozen {S0 : Fp} {l : List Ass} {w0 w : World} {g t : Nat} {x y : Value} (h : St S0 (BlkA g t #[x, y] :: l) w0 w) : w.frozen? ⟨g, 0, none⟩ = false ∧ w.frozen? ⟨g, 1, none⟩ = false := ⟨h.blk.frozen 0, h.blk.frozen 1⟩
theorem open_arith {k n Q a m p z s len cap : Nat} (ha : a = 16 + Q) (hm : s = m + 1) (hp : p = a + 1) (hz : z = a + s) (hin : Q + s + 16 ≤ len) (h2 : len ≤ 140737488355328) (hc : len ≤ cap) (hs : 2 ≤ s) (hs2 : s ≤ 255) (hk : k < n) (hn : n ≤ 65536) :
    (wrap64 (Q : Int) = (Q : Int) ∧ wrap64 (16 + (Q : Int)) = (a : Int) ∧ wrap64 ((k : Int) + 1) = (k : Int) + 1 ∧ (a : Int) < (len : Int) ∧ (k : Int) < (n : Int)) ∧
    (IntKind.i64.wrap ((a : Int) + 1) = (p : Int) ∧ IntKind.i64.wrap ((a : Int) + (s : Int)) = (z : Int)) ∧
    ((0 : Int) ≤ (p : Int) ∧ (p : Int) ≤ (z : Int) ∧ (z : Int) ≤ (len : Int) ∧ (z : Int) ≤ (cap : Int) ∧ p ≠ cap ∧ cap ≠ p ∧ p < cap) ∧
    (z - p = m ∧ m ≤ 255 ∧ z ≤ len ∧ p ≤ z ∧ a < len ∧ s - 1 = m ∧ 0 < s) := by
  refine ⟨⟨rfwrap (by omega) (by omega), ?_, rfwrap (by omega) (by omega), by omega, by omega⟩, ⟨?_, ?_⟩, by omega, by omega⟩
  · rw [rfwrap (by omega) (by omega)]; omega
  · rw [IntKind.wrap_i64]; omega
  · rw [IntKind.wrap_i64]; omega
theorem open_in {Q s rl ln len : Nat} (h : Q + s ≤ rl) (h1 : rl = ln) (h2 : ln = len - 16) (h3 : 16 ≤ len) : Q + s + 16 ≤ len := by omega
theorem open_cut {bs R D : List Nat} {s k Q a p z : Nat} (hR : R = bs.drop 16) (hD : D = recD R s k) (hQ : Q = k * s) (ha : a = 16 + Q) (hp : p = a + 1) (hz : z = a + s) : (bs.take z).drop p = D := by
  subst hR hD
  unfold recD
  rw [← hQ, List.take_drop, List.drop_drop, show 16 + (Q + s) = z by omega, show 16 + (Q + 1) = p by omega]
theorem open_re {R D : List Nat} {s n k Q y : Nat} (hs : 0 < s) (hR : R.length = n * s) (hlt : k < n) (hQ : Q = k * s) (hy : y = nth R Q) (hD : D = recD R s k) : recErr R s k = if y = 0 then (if zeroB D = true then 0 else 94) else if y = 1 then 0 else 93 := by
  unfold recErr
  rw [← hQ, ← hy]
  by_cases h0 : y = 0
  · have h5 := rec_cut hs hR hlt
    rw [← hQ, ← hy, ← hD, h0] at h5
    rw [if_pos h0, if_pos h0, h5]
    congr 1
  · rw [if_neg h0, if_neg h0]
theorem hd_one {bs : List Nat} {o : Nat} (h : o < 16) (hl : 16 ≤ bs.length) : hd bs o 1 = nth bs o := by
  unfold hd
  have h1 : ((bs.take 16).drop o).take 1 = [nth bs o] := by
    rw [← hd_cut bs o 1 (by omega), take_succ_nth bs o (by omega)]
    exact List.drop_left' (by rw [List.length_take]; omega)
  rw [h1]
  simp [be, beFrom]
theorem valAt {w : World} {B b off : Nat} {bs : List Nat} (hr : RB w B (some ⟨b, off, none⟩) bs) (h16 : 16 ≤ bs.length) (o d : Nat) (h : o + d ≤ 16) (h8 : d ≤ 8) (c : Nat) :
    Calls Tryd.prog 52 #[.slice (some ⟨b, off + o, none⟩) d c] w fun e w' => e = .returned (.int .u64 (hd bs o d : Nat)) ∧ w = w' := by
  have hc := hr.cut rfl o (o + d) (by omega) (by omega)
  have hl : ((bs.take (o + d)).drop o).length = d := by rw [List.length_drop, List.length_take]; omega
  have := Val_any (some ⟨b, off + o, none⟩) c B ((bs.take (o + d)).drop o) w hc (by omega)
  rw [hl] at this
  rw [hd_cut bs o d h] at this
  exact this
theorem sumAt {w : World} {B : Nat} {A : Option Addr} {bs : List Nat} (hr : RB w B A bs) (h16 : 16 ≤ bs.length) (c : Nat) :
    Calls Tryd.prog 47 #[.slice A 12 c] w fun e w' => e = .returned (.int .u32 (crc (bs.take 12) : Nat)) ∧ w = w' := by
  obtain ⟨b, off, rfl, -, -⟩ := hr.all (by omega)
  have hc := hr.cut rfl 0 12 (by omega) (by omega)
  rw [Nat.add_zero, List.drop_zero] at hc
  have hl : (bs.take 12).length = 12 := by rw [List.length_take]; omega
  have := refSum_any (some ⟨b, off, none⟩) c B (bs.take 12) w hc (by rw [hl]; decide)
  rw [hl] at this
  exact this
section
variable {S0 : Fp} {l : List Ass} {w0 w : World} {g : Nat} {K V S : Int} {L : List Rc}
theorem growRec [Stable (Sep l)] {z n cap c3 gg cap2 : Nat} {X : List Rq} {A A3 : Option Addr} {w3 w4 : World} {r : Rc} (hz : r.data.length = z) (hm : X.map (·.r) = L) (hn : n = X.length)
    (h3 : St S0 (ObA 5 (.slice A3 z c3) r.data :: BlkA g 67 #[.int .i64 K, .int .i64 V, .int .i64 S, .slice A n cap] :: OwA rcF 2 82 (.slice A n cap) X :: PoolA (poolOf X) :: l) w0 w3)
    (hown : w4.ownsRow 0 82 2 (.slice (some ⟨gg, 0, none⟩) (n + 1) cap2) (n + 1) (X.flatMap rcF ++ #[.bool r.used, .slice A3 z c3].toList)) (hgrow : (w3.alloc (.cells #[.bool r.used, .slice A3 z c3] 82)).grownBy w4 (Value.slice A n cap).ownBlock) (hat : (Value.slice A n cap).ownBlock = some gg ∨ gg = w3.heap.size + 1) :
    St S0 (BlkA g 67 #[.int .i64 K, .int .i64 V, .int .i64 S, .slice A n cap] :: OwA rcF 2 82 (.slice (some ⟨gg, 0, none⟩) (n + 1) cap2) (X ++ [⟨r, A3, c3⟩]) :: ObA 5 (.slice A3 z c3) r.data :: PoolA (poolOf X) :: l) w0 w4 ∧
      w4.frozen? ⟨g, 3, none⟩ = false ∧ St S0 (DfA g K V S (L ++ [r]) :: l) w0 (w4.setCell ⟨g, 3, none⟩ (.slice (some ⟨gg, 0, none⟩) (n + 1) cap2)) := by
  subst hz
  have hq : rcF ⟨r, A3, c3⟩ = [.bool r.used, .slice A3 r.data.length c3] := rfl
  have ha := (h3.alloc (.cells #[.bool r.used, .slice A3 r.data.length c3] 82)).bring2
  have h4 := (ha.grewOw (v' := .slice (some ⟨gg, 0, none⟩) (n + 1) cap2) (L' := X ++ [⟨r, A3, c3⟩]) (N := w3.heap.size + 1)
    (by rw [List.length_append, List.flatMap_append, List.flatMap_cons, List.flatMap_nil, hq, ← hn, List.append_nil]; exact hown) hgrow (hat.elim (fun e => .inl e.symm) fun e => .inr (congrArg some e)) (by simp)).bring2
  refine ⟨h4, h4.blk.frozen 3, ?_⟩
  have h7 := (h4.setBlk 3 (.slice (some ⟨gg, 0, none⟩) (n + 1) cap2)).bring3.bring3.intoPool
  have h8 := poolStep2 (q := ⟨r, A3, c3⟩) h7
  refine df_shut (X := X ++ [(⟨r, A3, c3⟩ : Rq)]) (v := .slice (some ⟨gg, 0, none⟩) (n + 1) cap2) ?_ h8.back2
  rw [List.map_append, hm]
  rfl
end
section
variable {w : World}
/-- what Open answers -/
def OpenRef (bs : List Nat) (w : World) (e : Ending) (w' : World) : Prop :=
  (openErr bs ≠ 0 ∧ e = .returned (.tuple #[.pointer none, .int .i64 (openErr bs)]) ∧ Below w.heap.size w w') ∨
  (openErr bs = 0 ∧ ∃ g, e = .returned (.tuple #[.pointer (some ⟨g, 0, none⟩), .int .i64 0]) ∧ St Zf [DfA g (hd bs 4 1 : Nat) (hd bs 5 1 : Nat) (hd bs 6 2 : Nat) (docL (bs.drop 16) (hd bs 6 2) (hd bs 8 4))] w w')
set_option maxHeartbeats 400000 in
theorem refOpen_short {A : Option Addr} {cap : Nat} {bs : List Nat} (hl : bs.length < 16) :
    Calls Tryd.prog 20 #[.slice A bs.length cap] w (OpenRef bs w) := by
  have he : openErr bs = 10 := by unfold openErr; rw [if_pos hl]
  have HE := Lib.hid he
  obtain ⟨n, hn⟩ : ∃ n, n = bs.length := ⟨_, rfl⟩
  rw [← hn] at hl ⊢
  have h1 : decide (n < 16) = true := decide_eq_true hl
  have h2 : (n : Int) < 16 := by omega
  clear hn he hl
  go_enter Tryd.func20, Tryd.ntmps20
  go_wp2
  go_ret2
  exact .inl ⟨by rw [HE.out]; decide, by rw [HE.out]; rfl, Below.refl _ _⟩
set_option maxRecDepth 100000 in
set_option maxHeartbeats 2000000 in
theorem refOpen_long {A : Option Addr} {cap B : Nat} {bs : List Nat} (hr : RB w B A bs) (hB : B ≤ w.heap.size) (h16 : 16 ≤ bs.length) (hl2 : bs.length ≤ 140737488355328) (hcap : bs.length ≤ cap) :
    Calls Tryd.prog 20 #[.slice A bs.length cap] w (OpenRef bs w) := by
  obtain ⟨i0, zz, hi, hzz, hs0, hby, hzs⟩ := row_info rec_info
  obtain ⟨b, off, rfl, hbB, hcells⟩ := hr.all (by omega)
  have hcut4 := hr.cut rfl 0 4 (by omega) (by omega)
  rw [Nat.add_zero, List.drop_zero] at hcut4
  have hcv := run_bytes_str (P := Tryd.prog) (w := w) 34 9 5 cap Tryd.underlying34 Tryd.underlying5 Tryd.underlying9 hcut4
  have hse := srec_eq hcut4.1
  have hl4 : (bs.take 4).length = 4 := by rw [List.length_take]; omega
  rw [hl4] at hcv
  have HV := Lib.hid fun (W : World) (hb : Below w.heap.size w W) (o d : Nat) (h : o + d ≤ 16) (h8 : d ≤ 8) (c : Nat) => valAt (hr.below' hb hB) h16 o d h h8 c
  have HSM := Lib.hid fun (W : World) (hb : Below w.heap.size w W) (c : Nat) => sumAt (hr.below' hb hB) h16 c
  have hoe : openErr bs = if hdErr bs = 0 then (if hd bs 8 4 ≤ 65536 ∧ (bs.drop 16).length = hd bs 8 4 * hd bs 6 2 then recsErr (bs.drop 16) (hd bs 6 2) (hd bs 8 4) else 92) else hdErr bs := by
    unfold openErr
    rw [if_neg (by omega)]
  have hhe : hdErr bs = if bs.take 4 = [83, 82, 69, 67] then (if hd bs 12 4 = crc (bs.take 12) then (if (decide (2 ≤ (hd bs 6 2 : Int)) && decide ((hd bs 6 2 : Int) ≤ 255)) = true then 0 else 4) else 91) else 90 := by
    unfold hdErr
    rw [if_neg (by omega)]
  have n16 : decide (bs.length < 16) = false := decide_eq_false (by omega)
  have i16 : (16 : Int) ≤ (bs.length : Int) := by omega
  have c16 : (16 : Int) ≤ (cap : Int) := by omega
  have i4 : (4 : Int) < (bs.length : Int) := by omega
  have i5 : (5 : Int) < (bs.length : Int) := by omega
  have c8 : (8 : Int) ≤ (cap : Int) := by omega
  have c12 : (12 : Int) ≤ (cap : Int) := by omega
  have HRB := Lib.hid hr
  have HBW := Lib.hid hB
  have HBB := Lib.hid hbB
  have HL16 := Lib.hid h16
  have HL2 := Lib.hid hl2
  have HCP := Lib.hid hcap
  have HOE := Lib.hid hoe
  have HHE := Lib.hid hhe
  have hc4 := hcells 4 (by omega)
  have hc5 := hcells 5 (by omega)
  have HCE := Lib.hid hcells
  have k4 : 4 ≠ cap := by omega
  have k12 : 12 ≠ cap := by omega
  have k12' : cap ≠ 12 := by omega
  have k12l : 12 < cap := by omega
  have k6 : 6 ≠ cap := by omega
  have k6' : cap ≠ 6 := by omega
  have k6l : 6 < cap := by omega
  have k8 : 8 ≠ cap := by omega
  have k8' : cap ≠ 8 := by omega
  have k8l : 8 < cap := by omega
  by_cases hmg : bs.take 4 = [83, 82, 69, 67]
  case neg =>
    have HN := Lib.hid hmg
    rw [decide_eq_false hmg] at hse
    have HE : Hid (openErr bs = 90) := Lib.hid (by rw [HOE.out, HHE.out, if_neg hmg, if_neg (by decide)])
    clear hmg hr hB hbB h16 hl2 hcap hcells hcut4 hl4 hoe hhe hc4 hc5 k12 k12' k12l k6 k6' k6l k8 k8' k8l
    go_enter Tryd.func20, Tryd.ntmps20
    go_wp2
    go_ret2
    exact .inl ⟨by rw [HE.out]; decide, by rw [HE.out]; rfl, Below.refl _ _⟩
  case pos =>
    rw [decide_eq_true hmg] at hse
    rw [if_pos hmg] at HHE
    clear hmg hr hB hbB h16 hl2 hcap hcells hcut4 hl4 hoe hhe
    obtain ⟨X, hX⟩ : ∃ x, x = hd bs 12 4 := ⟨_, rfl⟩
    obtain ⟨Y, hY⟩ : ∃ x, x = crc (bs.take 12) := ⟨_, rfl⟩
    have HV12 := Lib.hid fun (W : World) (hb : Below w.heap.size w W) (c : Nat) => HV.out W hb 12 4 (by decide) (by decide) c
    rw [← hX] at HV12 HHE
    rw [← hY] at HSM HHE
    have hYb : IntKind.u64.wrap (Y : Int) = (Y : Int) := wrapU64_in Y (by rw [hY]; exact Nat.lt_of_lt_of_le (crc_lt (HRB.out.1.take 12)) (by decide))
    clear hX hY
    go_enter Tryd.func20, Tryd.ntmps20
    go_upto_region 5 with fail
    clear hcv hse k4
    by_cases hxy : X = Y
    case neg =>
      have e1 : ((X : Int) != (Y : Int)) = true := bne_iff_ne.2 (by omega)
      have HE : Hid (openErr bs = 91) := Lib.hid (by rw [HOE.out, HHE.out, if_neg hxy, if_neg (by decide)])
      clear hxy
      go_quiet ((first
        | (go_at_call 52; exact Calls.quiet_of_same ((HV12.out _ (below_of_drewN _ _) _).mono fun e w' h => ⟨h.1, h.2.symm⟩))
        | (go_at_call 47; exact Calls.quiet_of_same ((HSM.out _ (below_of_drewN _ _) _).mono fun e w' h => ⟨h.1, h.2.symm⟩))))
      go_wp2
      go_ret2
      exact .inl ⟨by rw [HE.out]; decide, by rw [HE.out]; rfl, below_of_drewN _ _⟩
    case pos =>
      have e1 : ((X : Int) != (Y : Int)) = false := by rw [hxy]; simp
      rw [if_pos hxy] at HHE
      clear hxy
      go_quiet ((first
        | (go_at_call 52; exact Calls.quiet_of_same ((HV12.out _ (below_of_drewN _ _) _).mono fun e w' h => ⟨h.1, h.2.symm⟩))
        | (go_at_call 47; exact Calls.quiet_of_same ((HSM.out _ (below_of_drewN _ _) _).mono fun e w' h => ⟨h.1, h.2.symm⟩))))
      have hb2 := below_of_drewN (B := w.heap.size) w nq
      have d4 := hc4
      have d5 := hc5
      obtain ⟨w2, hw2⟩ : ∃ q, q = w.drewN nq := ⟨_, rfl⟩
      have d4 : w2.cell? ⟨b, off + 4, none⟩ = some (.int .u8 ((nth bs 4 : Nat) : Int)) := by rw [hw2]; exact hc4
      have d5 : w2.cell? ⟨b, off + 5, none⟩ = some (.int .u8 ((nth bs 5 : Nat) : Int)) := by rw [hw2]; exact hc5
      rw [← hw2] at hb2 ⊢
      have HB2 := Lib.hid hb2
      clear hb2 hw2 hc4 hc5 e1 hYb k12 k12' k12l HV12 HSM
      obtain ⟨kd, hkd⟩ : ∃ x, x = nth bs 4 := ⟨_, rfl⟩
      obtain ⟨vr, hvr⟩ : ∃ x, x = nth bs 5 := ⟨_, rfl⟩
      obtain ⟨s, hs⟩ : ∃ x, x = hd bs 6 2 := ⟨_, rfl⟩
      obtain ⟨n, hn⟩ : ∃ x, x = hd bs 8 4 := ⟨_, rfl⟩
      have hk8 : kd < 256 := by rw [hkd]; exact HRB.out.1.nth 4
      have hv8 : vr < 256 := by rw [hvr]; exact HRB.out.1.nth 5
      have hs16 : s < 65536 := by rw [hs]; exact hd_lt HRB.out.1 6 2 (by decide) HL16.out
      have hn32 : n < 4294967296 := by rw [hn]; exact hd_lt HRB.out.1 8 4 (by decide) HL16.out
      have HKV : Hid (hd bs 4 1 = kd ∧ hd bs 5 1 = vr ∧ hd bs 6 2 = s ∧ hd bs 8 4 = n) := Lib.hid ⟨by rw [hkd]; exact hd_one (by decide) HL16.out, by rw [hvr]; exact hd_one (by decide) HL16.out, hs.symm, hn.symm⟩
      rw [← hs] at HHE HOE
      rw [← hn] at HOE
      rw [← hkd] at d4
      rw [← hvr] at d5
      have HV6 := Lib.hid fun (W : World) (hb : Below w.heap.size w W) (c : Nat) => HV.out W hb 6 2 (by decide) (by decide) c
      have HV8 := Lib.hid fun (W : World) (hb : Below w.heap.size w W) (c : Nat) => HV.out W hb 8 4 (by decide) (by decide) c
      rw [← hs] at HV6
      rw [← hn] at HV8
      have q4 : IntKind.i64.wrap (kd : Int) = (kd : Int) := by rw [IntKind.wrap_i64]; omega
      have q5 : IntKind.i64.wrap (vr : Int) = (vr : Int) := by rw [IntKind.wrap_i64]; omega
      have q6 : IntKind.i64.wrap (s : Int) = (s : Int) := by rw [IntKind.wrap_i64]; omega
      have q8 : IntKind.i64.wrap (n : Int) = (n : Int) := by rw [IntKind.wrap_i64]; omega
      have HNB := Lib.hid (And.intro hs16 hn32)
      have hbl := fun W : World => run_build (P := Tryd.prog) W 67 #[(0, .int .i64 (kd : Int)), (1, .int .i64 (vr : Int)), (2, .int .i64 (s : Int))] #[.int .i64 (kd : Int), .int .i64 (vr : Int), .int .i64 (s : Int), .slice none 0 0] (by kernel_rfl)
      have H0 := Lib.hid ((St.start Zf w).below HB2.out)
      clear hkd hvr hs hn hk8 hv8 hs16 hn32 HV
      go_upto_region 7 with fail
      refine wp_region_held_drew (S := (fun w' => w'.cell? ⟨b, off + 4, none⟩ = some (.int .u8 (kd : Int)) ∧ w'.cell? ⟨b, off + 5, none⟩ = some (.int .u8 (vr : Int)))) (by kernel_rfl) (by (try dsimp only); go_keep) (fun hHeld => ?_)
      refine wpAnyH_take (i := 0) (v := ?_) rfl (by kernel_rfl) (by kernel_rfl) (by kernel_rfl) (fun _ _ _ h => h) (Or.inl ⟨by rfl, ?_⟩) (by assumption) ?_
      rotate_left
      · (intro w hSw; (try dsimp only at hSw); go_simp; try with_reducible rfl)
      try simp only [Act.put, List.getElem_toArray, List.getElem_cons_zero, List.getElem_cons_succ, List.setIfInBounds_toArray, List.set_cons_zero, List.set_cons_succ]
      refine wpAnyH_take (i := 1) (v := ?_) rfl (by kernel_rfl) (by kernel_rfl) (by kernel_rfl) (fun _ _ _ h => h) (Or.inl ⟨by rfl, ?_⟩) (by assumption) ?_
      rotate_left
      · (intro w hSw; (try dsimp only at hSw); go_simp; try with_reducible rfl)
      try simp only [Act.put, List.getElem_toArray, List.getElem_cons_zero, List.getElem_cons_succ, List.setIfInBounds_toArray, List.set_cons_zero, List.set_cons_succ]
      refine wpAnyH_take (i := 2) (v := ?_) rfl (by kernel_rfl) (by kernel_rfl) (by kernel_rfl) (fun _ _ _ h => h) (Or.inl ⟨by rfl, ?_⟩) (by assumption) ?_
      rotate_left
      · (intro w hSw; (try dsimp only at hSw); go_simp; try with_reducible rfl)
      try simp only [Act.put, List.getElem_toArray, List.getElem_cons_zero, List.getElem_cons_succ, List.setIfInBounds_toArray, List.set_cons_zero, List.set_cons_succ]
      refine wpAnyH_take (i := 3) (v := ?_) rfl (by kernel_rfl) (by kernel_rfl) (by kernel_rfl) (fun _ _ _ h => h) (Or.inl ⟨by rfl, ?_⟩) (by assumption) ?_
      rotate_left
      · (intro w hSw; (try dsimp only at hSw); go_simp; try with_reducible rfl)
      try simp only [Act.put, List.getElem_toArray, List.getElem_cons_zero, List.getElem_cons_succ, List.setIfInBounds_toArray, List.set_cons_zero, List.set_cons_succ]
      refine wpAnyH_take (i := 4) (v := ?_) rfl (by kernel_rfl) (by kernel_rfl) (by kernel_rfl) (fun _ _ _ h => h) (Or.inl ⟨by rfl, ?_⟩) (by assumption) ?_
      rotate_left
      · (intro w hSw; (try dsimp only at hSw); go_simp; try with_reducible rfl)
      try simp only [Act.put, List.getElem_toArray, List.getElem_cons_zero, List.getElem_cons_succ, List.setIfInBounds_toArray, List.set_cons_zero, List.set_cons_succ]
      refine wpAnyH_take (i := 5) (v := ?_) rfl (by kernel_rfl) (by kernel_rfl) (by kernel_rfl) (fun _ _ _ h => h) (Or.inl ⟨by rfl, ?_⟩) (by assumption) ?_
      rotate_left
      · (intro w hSw; (try dsimp only at hSw); go_simp; try with_reducible rfl)
      try simp only [Act.put, List.getElem_toArray, List.getElem_cons_zero, List.getElem_cons_succ, List.setIfInBounds_toArray, List.set_cons_zero, List.set_cons_succ]
      refine wpAnyH_take (i := 6) (v := ?_) rfl (by kernel_rfl) (by kernel_rfl) (by kernel_rfl) (fun _ _ _ h => h) (Or.inl ⟨by rfl, ?_⟩) (by assumption) ?_
      rotate_left
      · (intro w hSw; (try dsimp only at hSw); go_simp; try with_reducible rfl)
      try simp only [Act.put, List.getElem_toArray, List.getElem_cons_zero, List.getElem_cons_succ, List.setIfInBounds_toArray, List.set_cons_zero, List.set_cons_succ]
      refine wpAnyH_take (i := 7) (v := ?_) rfl (by kernel_rfl) (by kernel_rfl) (by kernel_rfl) (fun _ _ _ h => h) (Or.inl ⟨by rfl, ?_⟩) (by assumption) ?_
      rotate_left
      · (intro w hSw; (try dsimp only at hSw); go_simp; try with_reducible rfl)
      try simp only [Act.put, List.getElem_toArray, List.getElem_cons_zero, List.getElem_cons_succ, List.setIfInBounds_toArray, List.set_cons_zero, List.set_cons_succ]
      refine wpAnyH_take (i := 8) (v := ?_) rfl (by kernel_rfl) (by kernel_rfl) (by kernel_rfl) (fun _ _ _ h => h) (Or.inl ⟨by rfl, ?_⟩) (by assumption) ?_
      rotate_left
      · (intro w hSw; (try dsimp only at hSw); go_simp; try with_reducible rfl)
      try simp only [Act.put, List.getElem_toArray, List.getElem_cons_zero, List.getElem_cons_succ, List.setIfInBounds_toArray, List.set_cons_zero, List.set_cons_succ]
      refine wpAnyH_take (i := 9) (v := ?_) rfl (by kernel_rfl) (by kernel_rfl) (by kernel_rfl) (fun _ _ _ h => h) (Or.inl ⟨by rfl, ?_⟩) (by assumption) ?_
      rotate_left
      · (intro w hSw; (try dsimp only at hSw); go_simp; try with_reducible rfl)
      try simp only [Act.put, List.getElem_toArray, List.getElem_cons_zero, List.getElem_cons_succ, List.setIfInBounds_toArray, List.set_cons_zero, List.set_cons_succ]
      refine wpAnyH_ready (rs := [10]) (by kernel_rfl) (by simp) ?_
      refine AllReadyH.cons rfl (fun K hK => ?_) AllReadyH.nil
      go_simp
      go_at_call 52
      refine (HV6.out _ HB2.out.drew _).mono ?_
      rintro e w9 ⟨rfl, rfl⟩
      refine hK.out _ _ (by (try dsimp only); go_keep) (fun hHeld => ?_)
      clear hK K
      try simp only [Act.put, List.getElem_toArray, List.getElem_cons_zero, List.getElem_cons_succ, List.setIfInBounds_toArray, List.set_cons_zero, List.set_cons_succ]
      refine wpAnyH_take (i := 11) (v := ?_) rfl (by kernel_rfl) (by kernel_rfl) (by kernel_rfl) (fun _ _ _ h => h) (Or.inl ⟨by rfl, ?_⟩) (by assumption) ?_
      rotate_left
      · (intro w hSw; (try dsimp only at hSw); go_simp; try with_reducible rfl)
      try simp only [Act.put, List.getElem_toArray, List.getElem_cons_zero, List.getElem_cons_succ, List.setIfInBounds_toArray, List.set_cons_zero, List.set_cons_succ]
      refine wpAnyH_take (i := 12) (v := ?_) rfl (by kernel_rfl) (by kernel_rfl) (by kernel_rfl) (fun _ _ _ h => h) (Or.inl ⟨by rfl, ?_⟩) (by assumption) ?_
      rotate_left
      · (intro w hSw; (try dsimp only at hSw); go_simp; try with_reducible rfl)
      try simp only [Act.put, List.getElem_toArray, List.getElem_cons_zero, List.getElem_cons_succ, List.setIfInBounds_toArray, List.set_cons_zero, List.set_cons_succ]
      refine wpAnyH_ready (rs := [13]) (by kernel_rfl) (by simp) ?_
      refine AllReadyH.cons rfl (fun K hK => ?_) AllReadyH.nil
      go_simp
      refine hK.out _ _ (by (try dsimp only); go_keep) (fun hHeld => ?_)
      clear hK K
      try simp only [Act.put, List.getElem_toArray, List.getElem_cons_zero, List.getElem_cons_succ, List.setIfInBounds_toArray, List.set_cons_zero, List.set_cons_succ]
      refine wpAnyH_take (i := 14) (v := ?_) rfl (by kernel_rfl) (by kernel_rfl) (by kernel_rfl) (fun _ _ _ h => h) (Or.inl ⟨by rfl, ?_⟩) (by assumption) ?_
      rotate_left
      · (intro w hSw; (try dsimp only at hSw); go_simp; try with_reducible rfl)
      try simp only [Act.put, List.getElem_toArray, List.getElem_cons_zero, List.getElem_cons_succ, List.setIfInBounds_toArray, List.set_cons_zero, List.set_cons_succ]
      refine wpAnyH_done (by kernel_rfl) ?_ _
      clear d4 d5 q4 q5 hbl k6 k6' k6l
      have h3 := (((H0.out.nilPool).nilOw rcF 2 82).newBlk 67 #[.int .i64 (kd : Int), .int .i64 (vr : Int), .int .i64 (s : Int), .slice none 0 0]).drew
      obtain ⟨g, hg⟩ : ∃ g, g = w2.heap.size := ⟨_, rfl⟩
      change St Zf (BlkA w2.heap.size _ _ :: _) _ _ at h3
      rw [← hg] at h3
      have h3 : St Zf [DfA g (kd : Int) (vr : Int) (s : Int) []] w _ := df_shut (X := []) rfl h3
      obtain ⟨w3, hw3⟩ : ∃ q, q = (w2.alloc (.cells #[.int .i64 (kd : Int), .int .i64 (vr : Int), .int .i64 (s : Int), .slice none 0 0] 67)).drew := ⟨_, rfl⟩
      rw [← hw3] at h3 ⊢
      rw [← hg]
      obtain ⟨Ah, ch, x0, x1, x2, x3⟩ := df_head h3
      have HB3 := Lib.hid h3.bel
      have H3 := Lib.hid h3
      clear h3 hg hw3
      by_cases hsz : 2 ≤ s ∧ s ≤ 255
      case neg =>
        have HE : Hid (openErr bs = 4) := Lib.hid (by
          have h1 : ¬ (decide (2 ≤ (s : Int)) && decide ((s : Int) ≤ 255)) = true := by
            simp only [Bool.and_eq_true, decide_eq_true_eq]
            omega
          rw [HOE.out, HHE.out, if_neg h1, if_neg (by decide)])
        by_cases h1 : s < 2
        · have e0 : decide ((s : Int) < 2) = true := decide_eq_true (by omega)
          have e0' : decide (s < 2) = true := decide_eq_true h1
          clear hsz h1
          go_wp2
          go_ret2
          exact .inl ⟨by rw [HE.out]; decide, by rw [HE.out]; rfl, HB3.out⟩
        · have e0 : decide ((s : Int) < 2) = false := decide_eq_false (by omega)
          have e0' : decide (s < 2) = false := decide_eq_false h1
          have e1 : decide ((255 : Int) < (s : Int)) = true := decide_eq_true (by omega)
          have e1' : decide (255 < s) = true := decide_eq_true (by omega)
          clear hsz h1
          go_wp2
          go_ret2
          exact .inl ⟨by rw [HE.out]; decide, by rw [HE.out]; rfl, HB3.out⟩
      case pos =>
        have e0 : decide ((s : Int) < 2) = false := decide_eq_false (by omega)
        have e0' : decide (s < 2) = false := decide_eq_false (by omega)
        have e1 : decide ((255 : Int) < (s : Int)) = false := decide_eq_false (by omega)
        have e1' : decide (255 < s) = false := decide_eq_false (by omega)
        have h1 : (decide (2 ≤ (s : Int)) && decide ((s : Int) ≤ 255)) = true := by
          simp only [Bool.and_eq_true, decide_eq_true_eq]
          omega
        rw [if_pos h1] at HHE
        rw [HHE.out, if_pos rfl] at HOE
        obtain ⟨R, hR⟩ : ∃ x, x = bs.drop 16 := ⟨_, rfl⟩
        obtain ⟨E, hE⟩ : ∃ x, x = openErr bs := ⟨_, rfl⟩
        have hRl : R.length = bs.length - 16 := by rw [hR, List.length_drop]
        rw [← hR, ← hE] at HOE
        have HER := Lib.hid (And.intro hE hR)
        obtain ⟨P, hP⟩ : ∃ P, P = n * s := ⟨_, rfl⟩
        have hPl : P ≤ 1099511627776 := by
          rw [hP]
          exact Nat.le_trans (Nat.mul_le_mul (Nat.le_of_lt HNB.out.2) hsz.2) (by decide)
        have m1 : (n : Int) * (s : Int) = (P : Int) := by rw [hP, Int.natCast_mul]
        have m2 : wrap64 (P : Int) = (P : Int) := wrap_nat hPl
        obtain ⟨ln, hln⟩ : ∃ ln, ln = bs.length - 16 := ⟨_, rfl⟩
        have m5 : wrap64 ((bs.length : Int) - 16) = (ln : Int) := by
          have h1 := HL16.out
          have h2 := HL2.out
          rw [rfwrap (by omega) (by omega)]
          omega
        rw [← hln] at hRl
        rw [← hP] at HOE
        have HP := Lib.hid hP
        have HLN := Lib.hid hln
        have HSZ := Lib.hid hsz
        have HRL := Lib.hid hRl
        clear h1 hR hE hP hPl hsz HHE hln
        go_upto_region 11 with (go_at_call 52; refine (HV8.out w3 HB3.out _).mono ?_; rintro e w9 ⟨rfl, rfl⟩)
        clear q6 q8 e0 e0' e1 e1'
        by_cases hn : 65536 < n
        · have b0 : decide ((65536 : Int) < (n : Int)) = true := decide_eq_true (by omega)
          have b1 : decide (65536 < n) = true := decide_eq_true hn
          have he : Hid (E = 92) := Lib.hid (by rw [HOE.out, if_neg (fun h => by have := h.1; omega)])
          clear hn m1 m2 hRl
          go_wp2
          go_ret2
          exact .inl ⟨by rw [← HER.out.1, he.out]; decide, by rw [← HER.out.1, he.out]; rfl, HB3.out⟩
        · have b0 : decide ((65536 : Int) < (n : Int)) = false := decide_eq_false (by omega)
          have b1 : decide (65536 < n) = false := decide_eq_false hn
          by_cases hrp : R.length = P
          case neg =>
            have f1 : ((P : Int) != (ln : Int)) = true := bne_iff_ne.2 (by omega)
            have he : Hid (E = 92) := Lib.hid (by rw [HOE.out, if_neg (fun h => hrp h.2)])
            clear hn hrp hRl
            go_wp2
            go_ret2
            exact .inl ⟨by rw [← HER.out.1, he.out]; decide, by rw [← HER.out.1, he.out]; rfl, HB3.out⟩
          case pos =>
            have f1 : ((P : Int) != (ln : Int)) = false := by
              have : (P : Int) = (ln : Int) := by omega
              rw [this]; simp
            have HE : Hid (E = recsErr R s n) := Lib.hid (by rw [HOE.out, if_pos ⟨by omega, hrp⟩])
            have HN : Hid (n ≤ 65536) := Lib.hid (by omega)
            have HRP : Hid (R.length = n * s) := Lib.hid (by rw [hrp, HP.out])
            clear hn hrp hRl
            go_wp2
            clear f1 m1 m2 m5 b0 b1 x0 x1 x2 x3
            go_loopw [6] (fun i wr => ∃ k : Nat, k ≤ n ∧ i = .int .i64 k ∧ recsErr R s k = 0 ∧ St Zf [DfA g (kd : Int) (vr : Int) (s : Int) (docL R s k)] w wr) (fun i _ => n - (intOf i).toNat)
            case atStart => exact ⟨0, Nat.zero_le _, rfl, rfl, by rw [show docL R s 0 = [] from rfl]; exact H3.out⟩
            case round =>
              obtain ⟨k, hk, rfl, hz, hst⟩ := hrel
              clear H3 HB3
              by_cases hlt : k < n
              · obtain ⟨Ah, ch, x0, x1, x2, x3⟩ := df_head hst
                have hrw := HRB.out.below' hst.bel HBW.out
                have hin := rec_in HRP.out hlt
                obtain ⟨Q, hQ⟩ : ∃ Q, Q = k * s := ⟨_, rfl⟩
                obtain ⟨a, ha⟩ : ∃ a, a = 16 + Q := ⟨_, rfl⟩
                obtain ⟨m, hm⟩ : ∃ m, s = m + 1 := ⟨s - 1, by have := HSZ.out; omega⟩
                rw [← hQ] at hin
                obtain ⟨y, hy⟩ : ∃ y, y = nth R Q := ⟨_, rfl⟩
                obtain ⟨p, hp⟩ : ∃ p, p = a + 1 := ⟨_, rfl⟩
                obtain ⟨z, hz2⟩ : ∃ z, z = a + s := ⟨_, rfl⟩
                have hin2 : Q + s + 16 ≤ bs.length := open_in hin HRL.out HLN.out HL16.out
                obtain ⟨⟨m2, m3, m4, ia, hlk⟩, HW, HPZ, HMM⟩ := open_arith ha hm hp hz2 hin2 HL2.out HCP.out HSZ.out.1 HSZ.out.2 hlt HN.out
                have HW := Lib.hid HW
                have HPZ := Lib.hid HPZ
                have HMM := Lib.hid HMM
                have hcy : wr.cell? ⟨b, off + a, none⟩ = some (.int .u8 (y : Int)) := by
                  have h5 := hst.old (p := ⟨b, off + a, none⟩) (Nat.lt_of_lt_of_le HBB.out HBW.out)
                  rw [h5, HCE.out a HMM.out.2.2.2.2.1, hy, HER.out.2, nth_drop, ha]
                have hy8 : y < 256 := by rw [hy, HER.out.2]; exact (HRB.out.1.drop 16).nth Q
                obtain ⟨D, hD⟩ : ∃ D, D = recD R s k := ⟨_, rfl⟩
                have hDl : D.length = m := by rw [hD, recD_len (by rw [← hQ]; exact hin)]; exact HMM.out.2.2.2.2.2.1
                have hcut : RB wr B (some ⟨b, off + p, none⟩) D := by
                  have h5 := hrw.cut rfl p z HMM.out.2.2.1 HMM.out.2.2.2.1
                  rw [open_cut HER.out.2 hD hQ ha hp hz2] at h5
                  exact h5
                have HCUTW := Lib.hid fun (W : World) (hW : Below w.heap.size w W) => (show RB W B (some ⟨b, off + p, none⟩) D by
                  have h5 := (HRB.out.below' hW HBW.out).cut rfl p z HMM.out.2.2.1 HMM.out.2.2.2.1
                  rw [open_cut HER.out.2 hD hQ ha hp hz2] at h5
                  exact h5)
                have hre := open_re HMM.out.2.2.2.2.2.2 HRP.out hlt hQ hy hD
                have m1 : (k : Int) * (s : Int) = (Q : Int) := by rw [hQ, Int.natCast_mul]
                have HZP := Lib.hid HMM.out.1
                have HDL := Lib.hid hDl
                have HDB : Hid (D.length ≤ 140737488355328) := Lib.hid (by rw [hDl]; exact Nat.le_trans HMM.out.2.1 (by decide))
                have HM : Hid (m ≤ 255) := Lib.hid HMM.out.2.1
                have HCOPY := Lib.hid fun (W : World) (hW : Below w.heap.size w W) (c : Nat) => (show Calls Tryd.prog 53 #[.slice (some ⟨b, off + p, none⟩) m c] W (NewB D W) by
                  have h5 := Copy_any (some ⟨b, off + p, none⟩) c B D W (HCUTW.out W hW) (Nat.le_trans HBW.out hW.size) HDB.out
                  rw [HDL.out] at h5
                  exact h5)
                have HRE := Lib.hid hre
                have HZ := Lib.hid hz
                have HST := Lib.hid hst
                have HDOC : Hid (docL R s (k + 1) = docL R s k ++ [⟨decide (y = 1), D⟩]) := Lib.hid (by rw [docL_succ, ← hQ, ← hy, ← hD])
                have HFI := Lib.hid (fun h => recsErr_first (R := R) (s := s) (k := k) hz h n hlt)
                have HNX : Hid (recErr R s k = 0 → recsErr R s (k + 1) = 0) := Lib.hid (fun h => by
                  show (if recsErr R s k = 0 then recErr R s k else recsErr R s k) = 0
                  rw [if_pos hz, h])
                have HLT := Lib.hid hlt
                have HCY : Hid (w.cell? ⟨b, off + a, none⟩ = some (.int .u8 (y : Int))) := Lib.hid ((hst.old (p := ⟨b, off + a, none⟩) (Nat.lt_of_lt_of_le HBB.out HBW.out)).symm.trans hcy)
                have HM3 := Lib.hid m3
                clear hk hrw hin hin2 hQ ha hm hy hp hz2 hD hDl hcut hre hz hst
                by_cases hy1 : 1 < y
                · have g1 : decide ((1 : Int) < (y : Int)) = true := decide_eq_true (by omega)
                  have g1' : decide (1 < y) = true := decide_eq_true hy1
                  have HR9 : Hid (recErr R s k = 93) := Lib.hid (by rw [HRE.out, if_neg (by omega), if_neg (by omega)])
                  have HF9 := Lib.hid (HFI.out (by rw [HR9.out]; decide))
                  clear hy1 HFI HNX
                  go_wp2
                  go_ret2
                  exact .inl ⟨by rw [← HER.out.1, HE.out, HF9.out, HR9.out]; decide, by rw [← HER.out.1, HE.out, HF9.out, HR9.out]; rfl, HST.out.bel⟩
                · have g1 : decide ((1 : Int) < (y : Int)) = false := decide_eq_false (by omega)
                  have g1' : decide (1 < y) = false := decide_eq_false hy1
                  have hy01 : y = 0 ∨ y = 1 := by omega
                  have HY := Lib.hid hy01
                  clear hy1 hy01
                  go_upto_region 17 with fail
                  try rw [m3]
                  clear m1 m2 m3
                  go_upto_region 19 with fail
                  clear g1 g1'
                  have w1 := HW.out.1
                  have w2' := HW.out.2
                  obtain ⟨u1, u2, u3, u4, u5, u6, u7⟩ := HPZ.out
                  have u8' := HZP.out
                  obtain ⟨uu, huu⟩ : ∃ u, u = decide (y = 1) := ⟨_, rfl⟩
                  have hyb : ((y : Int) == 1) = uu := by
                    rw [huu]
                    rcases HY.out with h | h <;> rw [h] <;> rfl
                  have HUU := Lib.hid huu
                  rw [← huu] at HDOC
                  clear huu
                  go_cut [8] from 86 to 102 (fun p' wc => ∃ (rr : Nat) (A3 : Option Addr) (c3 : Nat), p' = .pointer (some ⟨rr, 0, none⟩) ∧ St Zf [BlkA rr 82 #[.bool uu, .slice A3 m c3], ObA 5 (.slice A3 m c3) D, DfA g (kd : Int) (vr : Int) (s : Int) (docL R s k)] w wc)
                  case first =>
                    have HSTD := Lib.hid HST.out.drew
                    have HCF := Lib.hid (fun (l : List Ass) (_ : Stable (Sep l)) (W : World) (h : St Zf (DfA g (kd : Int) (vr : Int) (s : Int) (docL R s k) :: l) w W) => (show W.cell? ⟨b, off + a, none⟩ = some (.int .u8 (y : Int)) ∧ W.cell? ⟨g, 2, none⟩ = some (.int .i64 (s : Int)) by
                      obtain ⟨A8, c8, -, -, h2, -⟩ := df_head h
                      exact ⟨(h.old (p := ⟨b, off + a, none⟩) (Nat.lt_of_lt_of_le HBB.out HBW.out)).trans HCY.out, h2⟩))
                    refine wp_region_held_drew (S := (fun w' => w'.cell? ⟨b, off + a, none⟩ = some (.int .u8 (y : Int)) ∧ w'.cell? ⟨g, 2, none⟩ = some (.int .i64 (s : Int)))) (by kernel_rfl) (by (try dsimp only); first | exact hHeld | exact ⟨t11, t12⟩ | go_keep) (fun hHeld => ?_)
                    refine wpAnyH_take (i := 0) (v := ?_) rfl (by kernel_rfl) (by kernel_rfl) (by kernel_rfl) (fun _ _ _ h => h) (Or.inl ⟨by rfl, ?_⟩) (by assumption) ?_
                    rotate_left
                    · (intro w hSw; (try dsimp only at hSw); go_simp; try with_reducible rfl)
                    try simp only [Act.put, List.getElem_toArray, List.getElem_cons_zero, List.getElem_cons_succ, List.setIfInBounds_toArray, List.set_cons_zero, List.set_cons_succ]
                    refine wpAnyH_take (i := 1) (v := ?_) rfl (by kernel_rfl) (by kernel_rfl) (by kernel_rfl) (fun _ _ _ h => h) (Or.inl ⟨by rfl, ?_⟩) (by assumption) ?_
                    rotate_left
                    · (intro w hSw; (try dsimp only at hSw); go_simp; try with_reducible rfl)
                    try simp only [Act.put, List.getElem_toArray, List.getElem_cons_zero, List.getElem_cons_succ, List.setIfInBounds_toArray, List.set_cons_zero, List.set_cons_succ]
                    refine wpAnyH_take (i := 2) (v := ?_) rfl (by kernel_rfl) (by kernel_rfl) (by kernel_rfl) (fun _ _ _ h => h) (Or.inl ⟨by rfl, ?_⟩) (by assumption) ?_
                    rotate_left
                    · (intro w hSw; (try dsimp only at hSw); go_simp; try with_reducible rfl)
                    try simp only [Act.put, List.getElem_toArray, List.getElem_cons_zero, List.getElem_cons_succ, List.setIfInBounds_toArray, List.set_cons_zero, List.set_cons_succ]
                    refine wpAnyH_take (i := 3) (v := ?_) rfl (by kernel_rfl) (by kernel_rfl) (by kernel_rfl) (fun _ _ _ h => h) (Or.inl ⟨by rfl, ?_⟩) (by assumption) ?_
                    rotate_left
                    · (intro w hSw; (try dsimp only at hSw); go_simp; try with_reducible rfl)
                    try simp only [Act.put, List.getElem_toArray, List.getElem_cons_zero, List.getElem_cons_succ, List.setIfInBounds_toArray, List.set_cons_zero, List.set_cons_succ]
                    refine wpAnyH_take (i := 4) (v := ?_) rfl (by kernel_rfl) (by kernel_rfl) (by kernel_rfl) (fun _ _ _ h => h) (Or.inl ⟨by rfl, ?_⟩) (by assumption) ?_
                    rotate_left
                    · (intro w hSw; (try dsimp only at hSw); go_simp; try with_reducible rfl)
                    try simp only [Act.put, List.getElem_toArray, List.getElem_cons_zero, List.getElem_cons_succ, List.setIfInBounds_toArray, List.set_cons_zero, List.set_cons_succ]
                    refine wpAnyH_take (i := 5) (v := ?_) rfl (by kernel_rfl) (by kernel_rfl) (by kernel_rfl) (fun _ _ _ h => h) (Or.inl ⟨by rfl, ?_⟩) (by assumption) ?_
                    rotate_left
                    · (intro w hSw; (try dsimp only at hSw); go_simp; try with_reducible rfl)
                    try simp only [Act.put, List.getElem_toArray, List.getElem_cons_zero, List.getElem_cons_succ, List.setIfInBounds_toArray, List.set_cons_zero, List.set_cons_succ]
                    refine wpAnyH_take (i := 6) (v := ?_) rfl (by kernel_rfl) (by kernel_rfl) (by kernel_rfl) (fun _ _ _ h => h) (Or.inl ⟨by rfl, ?_⟩) (by assumption) ?_
                    rotate_left
                    · (intro w hSw; (try dsimp only at hSw); go_simp; try with_reducible rfl)
                    try simp only [Act.put, List.getElem_toArray, List.getElem_cons_zero, List.getElem_cons_succ, List.setIfInBounds_toArray, List.set_cons_zero, List.set_cons_succ]
                    refine wpAnyH_take (i := 7) (v := ?_) rfl (by kernel_rfl) (by kernel_rfl) (by kernel_rfl) (fun _ _ _ h => h) (Or.inl ⟨by rfl, ?_⟩) (by assumption) ?_
                    rotate_left
                    · (intro w hSw; (try dsimp only at hSw); go_simp; try with_reducible rfl)
                    try simp only [Act.put, List.getElem_toArray, List.getElem_cons_zero, List.getElem_cons_succ, List.setIfInBounds_toArray, List.set_cons_zero, List.set_cons_succ]
                    refine wpAnyH_take (i := 8) (v := ?_) rfl (by kernel_rfl) (by kernel_rfl) (by kernel_rfl) (fun _ _ _ h => h) (Or.inl ⟨by rfl, ?_⟩) (by assumption) ?_
                    rotate_left
                    · (intro w hSw; (try dsimp only at hSw); go_simp; try with_reducible rfl)
                    try simp only [Act.put, List.getElem_toArray, List.getElem_cons_zero, List.getElem_cons_succ, List.setIfInBounds_toArray, List.set_cons_zero, List.set_cons_succ]
                    refine wpAnyH_take (i := 9) (v := ?_) rfl (by kernel_rfl) (by kernel_rfl) (by kernel_rfl) (fun _ _ _ h => h) (Or.inl ⟨by rfl, ?_⟩) (by assumption) ?_
                    rotate_left
                    · (intro w hSw; (try dsimp only at hSw); go_simp; try with_reducible rfl)
                    try simp only [Act.put, List.getElem_toArray, List.getElem_cons_zero, List.getElem_cons_succ, List.setIfInBounds_toArray, List.set_cons_zero, List.set_cons_succ]
                    refine wpAnyH_take (i := 10) (v := ?_) rfl (by kernel_rfl) (by kernel_rfl) (by kernel_rfl) (fun _ _ _ h => h) (Or.inl ⟨by rfl, ?_⟩) (by assumption) ?_
                    rotate_left
                    · (intro w hSw; (try dsimp only at hSw); go_simp; try with_reducible rfl)
                    try simp only [Act.put, List.getElem_toArray, List.getElem_cons_zero, List.getElem_cons_succ, List.setIfInBounds_toArray, List.set_cons_zero, List.set_cons_succ]
                    refine wpAnyH_take (i := 11) (v := ?_) rfl (by kernel_rfl) (by kernel_rfl) (by kernel_rfl) (fun _ _ _ h => h) (Or.inl ⟨by rfl, ?_⟩) (by assumption) ?_
                    rotate_left
                    · (intro w hSw; (try dsimp only at hSw); go_simp; try with_reducible rfl)
                    try simp only [Act.put, List.getElem_toArray, List.getElem_cons_zero, List.getElem_cons_succ, List.setIfInBounds_toArray, List.set_cons_zero, List.set_cons_succ]
                    refine wpAnyH_take (i := 12) (v := ?_) rfl (by kernel_rfl) (by kernel_rfl) (by kernel_rfl) (fun _ _ _ h => h) (Or.inl ⟨by rfl, ?_⟩) (by assumption) ?_
                    rotate_left
                    · (intro w hSw; (try dsimp only at hSw); go_simp; try with_reducible rfl)
                    try simp only [Act.put, List.getElem_toArray, List.getElem_cons_zero, List.getElem_cons_succ, List.setIfInBounds_toArray, List.set_cons_zero, List.set_cons_succ]
                    refine wpAnyH_take (i := 13) (v := ?_) rfl (by kernel_rfl) (by kernel_rfl) (by kernel_rfl) (fun _ _ _ h => h) (Or.inl ⟨by rfl, ?_⟩) (by assumption) ?_
                    rotate_left
                    · (intro w hSw; (try dsimp only at hSw); go_simp; try with_reducible rfl)
                    try simp only [Act.put, List.getElem_toArray, List.getElem_cons_zero, List.getElem_cons_succ, List.setIfInBounds_toArray, List.set_cons_zero, List.set_cons_succ]
                    refine wpAnyH_take (i := 14) (v := ?_) rfl (by kernel_rfl) (by kernel_rfl) (by kernel_rfl) (fun _ _ _ h => h) (Or.inl ⟨by rfl, ?_⟩) (by assumption) ?_
                    rotate_left
                    · (intro w hSw; (try dsimp only at hSw); go_simp; try with_reducible rfl)
                    try simp only [Act.put, List.getElem_toArray, List.getElem_cons_zero, List.getElem_cons_succ, List.setIfInBounds_toArray, List.set_cons_zero, List.set_cons_succ]
                    refine wpAnyH_ready (rs := [15, 17]) (by kernel_rfl) (by simp) ?_
                    refine AllReadyH.cons rfl (fun K hK => ?_) ?_
                    · go_simp
                      go_at_call 53
                      first | (refine (HCOPY.out _ H4.out.bel _).mono ?_) | (refine (HCOPY.out _ HSTD.out.bel _).mono ?_)
                      rintro e w3 ⟨v3, rfl, ho3, hb3⟩
                      obtain ⟨A3, c3, hv3, -, -, -, -⟩ := ho3.form
                      rw [HDL.out] at hv3
                      subst hv3
                      first | (have H5 := Lib.hid (H4.out.newOb ho3 hb3).swap; obtain ⟨t1, t2⟩ := HCF.out _ inferInstance _ H5.out.bring2; obtain ⟨t3, t4⟩ := recCells H5.out; obtain ⟨f3, f4⟩ := recFrozen H5.out) | (have H3 := Lib.hid (HSTD.out.newOb ho3 hb3); obtain ⟨t1, t2⟩ := HCF.out _ inferInstance _ H3.out.swap)
                      clear ho3 hb3
                      refine hK.out _ _ (by (try dsimp only); first | exact hHeld | exact ⟨t11, t12⟩ | go_keep) (fun hHeld => ?_)
                      clear hK K
                      try simp only [Act.put, List.getElem_toArray, List.getElem_cons_zero, List.getElem_cons_succ, List.setIfInBounds_toArray, List.set_cons_zero, List.set_cons_succ]
                      refine wpAnyH_take (i := 16) (v := ?_) rfl (by kernel_rfl) (by kernel_rfl) (by kernel_rfl) (fun _ _ _ h => h) (Or.inl ⟨by rfl, ?_⟩) (by assumption) ?_
                      rotate_left
                      · (intro w hSw; (try dsimp only at hSw); go_simp; try with_reducible rfl)
                      try simp only [Act.put, List.getElem_toArray, List.getElem_cons_zero, List.getElem_cons_succ, List.setIfInBounds_toArray, List.set_cons_zero, List.set_cons_succ]
                      refine wpAnyH_ready (rs := [17]) (by kernel_rfl) (by simp) ?_
                      refine AllReadyH.cons rfl (fun K hK => ?_) AllReadyH.nil
                      go_simp
                      first | (have H4 := Lib.hid (H3.out.newBlk 82 #[.bool false, .slice none 0 0]); obtain ⟨t5, t6⟩ := HCF.out _ inferInstance _ H4.out.bring2) | (have H4 := Lib.hid (HST.out.newBlk 82 #[.bool false, .slice none 0 0]).drew; obtain ⟨t5, t6⟩ := HCF.out _ inferInstance _ H4.out.swap)
                      obtain ⟨t7, t8⟩ := recCells H4.out
                      obtain ⟨f1, f2⟩ := recFrozen H4.out
                      refine hK.out _ _ (by (try dsimp only); first | exact hHeld | exact ⟨t11, t12⟩ | go_keep) (fun hHeld => ?_)
                      clear hK K
                      try simp only [Act.put, List.getElem_toArray, List.getElem_cons_zero, List.getElem_cons_succ, List.setIfInBounds_toArray, List.set_cons_zero, List.set_cons_succ]
                      refine wpAnyH_ready (rs := [18]) (by kernel_rfl) (by simp) ?_
                      refine AllReadyH.cons rfl (fun K hK => ?_) AllReadyH.nil
                      first | (have H6 := Lib.hid ((H5.out.setBlk 0 (.bool uu)).setBlk 1 (.slice A3 m c3))) | (have H6 := Lib.hid (H3.out.newBlk 82 #[.bool uu, .slice A3 m c3]))
                      obtain ⟨t11, t12⟩ := HCF.out _ inferInstance _ H6.out.bring2
                      go_simp
                      refine hK.out _ _ (by (try dsimp only); first | exact hHeld | exact ⟨t11, t12⟩ | go_keep) (fun hHeld => ?_)
                      clear hK K
                      try simp only [Act.put, List.getElem_toArray, List.getElem_cons_zero, List.getElem_cons_succ, List.setIfInBounds_toArray, List.set_cons_zero, List.set_cons_succ]
                      refine wpAnyH_done (by kernel_rfl) ?_ _
                      go_wp2
                      go_meet
                      exact ⟨_, A3, c3, rfl, H6.out⟩
                    refine AllReadyH.cons rfl (fun K hK => ?_) AllReadyH.nil
                    go_simp
                    first | (have H4 := Lib.hid (H3.out.newBlk 82 #[.bool false, .slice none 0 0]); obtain ⟨t5, t6⟩ := HCF.out _ inferInstance _ H4.out.bring2) | (have H4 := Lib.hid (HST.out.newBlk 82 #[.bool false, .slice none 0 0]).drew; obtain ⟨t5, t6⟩ := HCF.out _ inferInstance _ H4.out.swap)
                    obtain ⟨t7, t8⟩ := recCells H4.out
                    obtain ⟨f1, f2⟩ := recFrozen H4.out
                    refine hK.out _ _ (by (try dsimp only); first | exact hHeld | exact ⟨t11, t12⟩ | go_keep) (fun hHeld => ?_)
                    clear hK K
                    try simp only [Act.put, List.getElem_toArray, List.getElem_cons_zero, List.getElem_cons_succ, List.setIfInBounds_toArray, List.set_cons_zero, List.set_cons_succ]
                    refine wpAnyH_ready (rs := [15]) (by kernel_rfl) (by simp) ?_
                    refine AllReadyH.cons rfl (fun K hK => ?_) AllReadyH.nil
                    go_simp
                    go_at_call 53
                    first | (refine (HCOPY.out _ H4.out.bel _).mono ?_) | (refine (HCOPY.out _ HSTD.out.bel _).mono ?_)
                    rintro e w3 ⟨v3, rfl, ho3, hb3⟩
                    obtain ⟨A3, c3, hv3, -, -, -, -⟩ := ho3.form
                    rw [HDL.out] at hv3
                    subst hv3
                    first | (have H5 := Lib.hid (H4.out.newOb ho3 hb3).swap; obtain ⟨t1, t2⟩ := HCF.out _ inferInstance _ H5.out.bring2; obtain ⟨t3, t4⟩ := recCells H5.out; obtain ⟨f3, f4⟩ := recFrozen H5.out) | (have H3 := Lib.hid (HSTD.out.newOb ho3 hb3); obtain ⟨t1, t2⟩ := HCF.out _ inferInstance _ H3.out.swap)
                    clear ho3 hb3
                    refine hK.out _ _ (by (try dsimp only); first | exact hHeld | exact ⟨t11, t12⟩ | go_keep) (fun hHeld => ?_)
                    clear hK K
                    try simp only [Act.put, List.getElem_toArray, List.getElem_cons_zero, List.getElem_cons_succ, List.setIfInBounds_toArray, List.set_cons_zero, List.set_cons_succ]
                    refine wpAnyH_take (i := 16) (v := ?_) rfl (by kernel_rfl) (by kernel_rfl) (by kernel_rfl) (fun _ _ _ h => h) (Or.inl ⟨by rfl, ?_⟩) (by assumption) ?_
                    rotate_left
                    · (intro w hSw; (try dsimp only at hSw); go_simp; try with_reducible rfl)
                    try simp only [Act.put, List.getElem_toArray, List.getElem_cons_zero, List.getElem_cons_succ, List.setIfInBounds_toArray, List.set_cons_zero, List.set_cons_succ]
                    refine wpAnyH_ready (rs := [18]) (by kernel_rfl) (by simp) ?_
                    refine AllReadyH.cons rfl (fun K hK => ?_) AllReadyH.nil
                    first | (have H6 := Lib.hid ((H5.out.setBlk 0 (.bool uu)).setBlk 1 (.slice A3 m c3))) | (have H6 := Lib.hid (H3.out.newBlk 82 #[.bool uu, .slice A3 m c3]))
                    obtain ⟨t11, t12⟩ := HCF.out _ inferInstance _ H6.out.bring2
                    go_simp
                    refine hK.out _ _ (by (try dsimp only); first | exact hHeld | exact ⟨t11, t12⟩ | go_keep) (fun hHeld => ?_)
                    clear hK K
                    try simp only [Act.put, List.getElem_toArray, List.getElem_cons_zero, List.getElem_cons_succ, List.setIfInBounds_toArray, List.set_cons_zero, List.set_cons_succ]
                    refine wpAnyH_done (by kernel_rfl) ?_ _
                    go_wp2
                    go_meet
                    exact ⟨_, A3, c3, rfl, H6.out⟩

                  case rest =>
                    obtain ⟨rr, A3, c3, rfl, hst2⟩ := hcut
                    have hbk := hst2.blk
                    have r0 : wc.cell? ⟨rr, 0, none⟩ = some (.bool uu) := by rw [hbk.cell]; rfl
                    have r1 : wc.cell? ⟨rr, 1, none⟩ = some (.slice A3 m c3) := by rw [hbk.cell]; rfl
                    have HRD := Lib.hid hst2.swap.ob.reads.2.1
                    have HS2 := Lib.hid hst2
                    obtain ⟨v9, X, hm9, h9⟩ := df_open hst2.bring2
                    obtain ⟨A9, cap9, rfl, hr9⟩ := df_readX h9
                    have hXl := mapLen hm9
                    rw [docL_len] at hXl
                    have hg3 := hr9.1.2.2.2
                    have h9 := h9.bring4
                    rw [hXl] at h9 hg3
                    have HG3 := Lib.hid hg3
                    have H9 := Lib.hid h9
                    have H9d := Lib.hid h9.drew
                    have HM9 := Lib.hid hm9
                    have HXL := Lib.hid hXl.symm
                    have hmI : (m : Int) ≤ 255 := by have := HM.out; omega
                    clear hbk hst2 h9 hr9 hXl hm9 w1 w2' u1 u2 u3 u4 u5 u6 u7 u8' hyb hg3
                    cases uu
                    case true =>
                      have HUY : Hid (y = 1) := Lib.hid (of_decide_eq_true HUU.out.symm)
                      have HR0 : Hid (recErr R s k = 0) := Lib.hid (by rw [HRE.out, HUY.out]; rfl)
                      have HZ1 := Lib.hid (HNX.out HR0.out)
                      go_wp2
                      go_loop [9] (fun q => ∃ j : Nat, j ≤ m ∧ q = .int .i64 j) (fun q => m - (intOf q).toNat)
                      case atStart => exact ⟨0, Nat.zero_le _, rfl⟩
                      case round =>
                        obtain ⟨j, hj, rfl⟩ := hrel
                        by_cases hjm : j < m
                        · have hjI : (j : Int) < (m : Int) := by omega
                          clear hj
                          go_wp2
                          go_round
                          case rel => exact ⟨j + 1, hjm, by go_num⟩
                          case measure => exact meas_lt hjm
                        · obtain rfl : m = j := by omega
                          clear hj hjm
                          go_upto_region 25 with fail
                          have g3 := HG3.out
                          have HBY : Hid ((k + 1) * 32 ≤ 140737488355328) := Lib.hid (by have h1 := HN.out; have h2 := HLT.out; omega)
                          have HOW : Hid (wc.drew.ownsRow 0 82 2 (.slice A9 k cap9) k (X.flatMap rcF)) := Lib.hid (by have := H9d.out.bring2.ow; rw [← HXL.out] at this; exact this)
                          obtain ⟨a0, a1⟩ := recCells (H9.out.alloc (.cells #[.bool true, .slice A3 m c3] 82)).bring4
                          obtain ⟨-, -, -, a3⟩ := df_cells (H9.out.alloc (.cells #[.bool true, .slice A3 m c3] 82)).swap
                          have HFIN := Lib.hid (fun (gg cap2 : Nat) (w4 : World) hown hgrow hat => growRec (S0 := Zf) (l := [BlkA rr 82 #[.bool true, .slice A3 m c3]]) (w0 := w) (g := g) (K := (kd : Int)) (V := (vr : Int)) (S := (s : Int)) (L := docL R s k) (z := m) (n := k) (cap := cap9) (c3 := c3) (gg := gg) (cap2 := cap2) (X := X) (A := A9) (A3 := A3) (w3 := wc.drew) (w4 := w4) (r := ⟨true, D⟩) HDL.out HM9.out HXL.out H9d.out hown hgrow hat)
                          refine wp_region_held_drew (S := (fun w' => w'.cell? ⟨rr, 0, none⟩ = some (.bool true) ∧ w'.cell? ⟨rr, 1, none⟩ = some (.slice A3 m c3))) (by kernel_rfl) (by (try dsimp only); first | exact hHeld | exact ⟨y4, y5⟩ | go_keep) (fun hHeld => ?_)
                          refine wpAnyH_take (i := 0) (v := ?_) rfl (by kernel_rfl) (by kernel_rfl) (by kernel_rfl) (fun _ _ _ h => h) (Or.inl ⟨by rfl, ?_⟩) (by assumption) ?_
                          rotate_left
                          · (intro w hSw; (try dsimp only at hSw); go_simp; try with_reducible rfl)
                          try simp only [Act.put, List.getElem_toArray, List.getElem_cons_zero, List.getElem_cons_succ, List.setIfInBounds_toArray, List.set_cons_zero, List.set_cons_succ]
                          refine wpAnyH_take (i := 1) (v := ?_) rfl (by kernel_rfl) (by kernel_rfl) (by kernel_rfl) (fun _ _ _ h => h) (Or.inl ⟨by rfl, ?_⟩) (by assumption) ?_
                          rotate_left
                          · (intro w hSw; (try dsimp only at hSw); go_simp; try with_reducible rfl)
                          try simp only [Act.put, List.getElem_toArray, List.getElem_cons_zero, List.getElem_cons_succ, List.setIfInBounds_toArray, List.set_cons_zero, List.set_cons_succ]
                          refine wpAnyH_take (i := 2) (v := ?_) rfl (by kernel_rfl) (by kernel_rfl) (by kernel_rfl) (fun _ _ _ h => h) (Or.inl ⟨by rfl, ?_⟩) (by assumption) ?_
                          rotate_left
                          · (intro w hSw; (try dsimp only at hSw); go_simp; try with_reducible rfl)
                          try simp only [Act.put, List.getElem_toArray, List.getElem_cons_zero, List.getElem_cons_succ, List.setIfInBounds_toArray, List.set_cons_zero, List.set_cons_succ]
                          refine wpAnyH_take (i := 3) (v := ?_) rfl (by kernel_rfl) (by kernel_rfl) (by kernel_rfl) (fun _ _ _ h => h) (Or.inl ⟨by rfl, ?_⟩) (by assumption) ?_
                          rotate_left
                          · (intro w hSw; (try dsimp only at hSw); go_simp; try with_reducible rfl)
                          try simp only [Act.put, List.getElem_toArray, List.getElem_cons_zero, List.getElem_cons_succ, List.setIfInBounds_toArray, List.set_cons_zero, List.set_cons_succ]
                          refine wpAnyH_take (i := 5) (v := ?_) rfl (by kernel_rfl) (by kernel_rfl) (by kernel_rfl) (fun _ _ _ h => h) (Or.inl ⟨by rfl, ?_⟩) (by assumption) ?_
                          rotate_left
                          · (intro w hSw; (try dsimp only at hSw); go_simp; try with_reducible rfl)
                          try simp only [Act.put, List.getElem_toArray, List.getElem_cons_zero, List.getElem_cons_succ, List.setIfInBounds_toArray, List.set_cons_zero, List.set_cons_succ]
                          refine wpAnyH_ready (rs := [4, 6]) (by kernel_rfl) (by simp) ?_
                          refine AllReadyH.cons rfl (fun K hK => ?_) ?_
                          · go_simp
                            refine hK.out _ _ (by (try dsimp only); first | exact hHeld | exact ⟨y4, y5⟩ | go_keep) (fun hHeld => ?_)
                            clear hK K
                            try simp only [Act.put, List.getElem_toArray, List.getElem_cons_zero, List.getElem_cons_succ, List.setIfInBounds_toArray, List.set_cons_zero, List.set_cons_succ]
                            refine wpAnyH_ready (rs := [6]) (by kernel_rfl) (by simp) ?_
                            refine AllReadyH.cons rfl (fun K hK => ?_) AllReadyH.nil
                            go_simp
                            refine hK.out _ _ (by (try dsimp only); first | exact hHeld | exact ⟨y4, y5⟩ | go_keep) (fun hHeld => ?_)
                            clear hK K
                            try simp only [Act.put, List.getElem_toArray, List.getElem_cons_zero, List.getElem_cons_succ, List.setIfInBounds_toArray, List.set_cons_zero, List.set_cons_succ]
                            refine wpAnyH_ready (rs := [7]) (by kernel_rfl) (by simp) ?_
                            refine AllReadyH.cons rfl (fun K hK => ?_) AllReadyH.nil
                            refine step_append_row wc.drew (by rfl) _ _ _ (by rfl) 82 i0 zz 2 32 Tryd.underlying65 hi hzz hs0 hby hzs (by omega) (by omega) _ k (X.flatMap rcF) (by rfl) HOW.out #[.bool true, .slice A3 m c3] (by rfl) (by intro u hu; simp only [List.mem_cons, List.not_mem_nil, or_false] at hu; rcases hu with rfl | rfl <;> rfl) (by rfl) HBY.out ?_
                            intro gg cap2 w4 hown4 hgrow4 hat4 hltg4
                            obtain ⟨H4, f3, hfin⟩ := HFIN.out gg cap2 w4 hown4 hgrow4 hat4
                            have HFI2 := Lib.hid hfin
                            have H4 := Lib.hid H4
                            obtain ⟨y0, y1⟩ := recCells H4.out.bring4
                            obtain ⟨-, -, -, y3⟩ := df_cells H4.out
                            obtain ⟨y4, y5⟩ := recCells (H4.out.setBlk 3 (.slice (some ⟨gg, 0, none⟩) (k + 1) cap2)).bring4
                            clear hown4 hgrow4 hat4 hltg4 hfin
                            refine hK.out _ _ (by (try dsimp only); first | exact hHeld | exact ⟨y4, y5⟩ | go_keep) (fun hHeld => ?_)
                            clear hK K
                            try simp only [Act.put, List.getElem_toArray, List.getElem_cons_zero, List.getElem_cons_succ, List.setIfInBounds_toArray, List.set_cons_zero, List.set_cons_succ]
                            refine wpAnyH_take (i := 8) (v := ?_) rfl (by kernel_rfl) (by kernel_rfl) (by kernel_rfl) (fun _ _ _ h => h) (Or.inl ⟨by rfl, ?_⟩) (by assumption) ?_
                            rotate_left
                            · (intro w hSw; (try dsimp only at hSw); go_simp; try with_reducible rfl)
                            try simp only [Act.put, List.getElem_toArray, List.getElem_cons_zero, List.getElem_cons_succ, List.setIfInBounds_toArray, List.set_cons_zero, List.set_cons_succ]
                            refine wpAnyH_take (i := 9) (v := ?_) rfl (by kernel_rfl) (by kernel_rfl) (by kernel_rfl) (fun _ _ _ h => h) (Or.inl ⟨by rfl, ?_⟩) (by assumption) ?_
                            rotate_left
                            · (intro w hSw; (try dsimp only at hSw); go_simp; try with_reducible rfl)
                            try simp only [Act.put, List.getElem_toArray, List.getElem_cons_zero, List.getElem_cons_succ, List.setIfInBounds_toArray, List.set_cons_zero, List.set_cons_succ]
                            refine wpAnyH_ready (rs := [10]) (by kernel_rfl) (by simp) ?_
                            refine AllReadyH.cons rfl (fun K hK => ?_) AllReadyH.nil
                            go_simp
                            refine hK.out _ _ (by (try dsimp only); first | exact hHeld | exact ⟨y4, y5⟩ | go_keep) (fun hHeld => ?_)
                            clear hK K
                            try simp only [Act.put, List.getElem_toArray, List.getElem_cons_zero, List.getElem_cons_succ, List.setIfInBounds_toArray, List.set_cons_zero, List.set_cons_succ]
                            refine wpAnyH_done (by kernel_rfl) ?_ _
                            clear g3 r0 r1
                            go_wp2
                            go_roundw
                            case rel => exact ⟨k + 1, HLT.out, by go_num, HZ1.out, by rw [HDOC.out]; exact HFI2.out.dropSnd⟩
                            case measure => first | exact meas_lt hlt | (rw [m4]; exact meas_lt hlt)
                          refine AllReadyH.cons rfl (fun K hK => ?_) AllReadyH.nil
                          go_simp
                          refine hK.out _ _ (by (try dsimp only); first | exact hHeld | exact ⟨y4, y5⟩ | go_keep) (fun hHeld => ?_)
                          clear hK K
                          try simp only [Act.put, List.getElem_toArray, List.getElem_cons_zero, List.getElem_cons_succ, List.setIfInBounds_toArray, List.set_cons_zero, List.set_cons_succ]
                          refine wpAnyH_ready (rs := [4]) (by kernel_rfl) (by simp) ?_
                          refine AllReadyH.cons rfl (fun K hK => ?_) AllReadyH.nil
                          go_simp
                          refine hK.out _ _ (by (try dsimp only); first | exact hHeld | exact ⟨y4, y5⟩ | go_keep) (fun hHeld => ?_)
                          clear hK K
                          try simp only [Act.put, List.getElem_toArray, List.getElem_cons_zero, List.getElem_cons_succ, List.setIfInBounds_toArray, List.set_cons_zero, List.set_cons_succ]
                          refine wpAnyH_ready (rs := [7]) (by kernel_rfl) (by simp) ?_
                          refine AllReadyH.cons rfl (fun K hK => ?_) AllReadyH.nil
                          refine step_append_row wc.drew (by rfl) _ _ _ (by rfl) 82 i0 zz 2 32 Tryd.underlying65 hi hzz hs0 hby hzs (by omega) (by omega) _ k (X.flatMap rcF) (by rfl) HOW.out #[.bool true, .slice A3 m c3] (by rfl) (by intro u hu; simp only [List.mem_cons, List.not_mem_nil, or_false] at hu; rcases hu with rfl | rfl <;> rfl) (by rfl) HBY.out ?_
                          intro gg cap2 w4 hown4 hgrow4 hat4 hltg4
                          obtain ⟨H4, f3, hfin⟩ := HFIN.out gg cap2 w4 hown4 hgrow4 hat4
                          have HFI2 := Lib.hid hfin
                          have H4 := Lib.hid H4
                          obtain ⟨y0, y1⟩ := recCells H4.out.bring4
                          obtain ⟨-, -, -, y3⟩ := df_cells H4.out
                          obtain ⟨y4, y5⟩ := recCells (H4.out.setBlk 3 (.slice (some ⟨gg, 0, none⟩) (k + 1) cap2)).bring4
                          clear hown4 hgrow4 hat4 hltg4 hfin
                          refine hK.out _ _ (by (try dsimp only); first | exact hHeld | exact ⟨y4, y5⟩ | go_keep) (fun hHeld => ?_)
                          clear hK K
                          try simp only [Act.put, List.getElem_toArray, List.getElem_cons_zero, List.getElem_cons_succ, List.setIfInBounds_toArray, List.set_cons_zero, List.set_cons_succ]
                          refine wpAnyH_take (i := 8) (v := ?_) rfl (by kernel_rfl) (by kernel_rfl) (by kernel_rfl) (fun _ _ _ h => h) (Or.inl ⟨by rfl, ?_⟩) (by assumption) ?_
                          rotate_left
                          · (intro w hSw; (try dsimp only at hSw); go_simp; try with_reducible rfl)
                          try simp only [Act.put, List.getElem_toArray, List.getElem_cons_zero, List.getElem_cons_succ, List.setIfInBounds_toArray, List.set_cons_zero, List.set_cons_succ]
                          refine wpAnyH_take (i := 9) (v := ?_) rfl (by kernel_rfl) (by kernel_rfl) (by kernel_rfl) (fun _ _ _ h => h) (Or.inl ⟨by rfl, ?_⟩) (by assumption) ?_
                          rotate_left
                          · (intro w hSw; (try dsimp only at hSw); go_simp; try with_reducible rfl)
                          try simp only [Act.put, List.getElem_toArray, List.getElem_cons_zero, List.getElem_cons_succ, List.setIfInBounds_toArray, List.set_cons_zero, List.set_cons_succ]
                          refine wpAnyH_ready (rs := [10]) (by kernel_rfl) (by simp) ?_
                          refine AllReadyH.cons rfl (fun K hK => ?_) AllReadyH.nil
                          go_simp
                          refine hK.out _ _ (by (try dsimp only); first | exact hHeld | exact ⟨y4, y5⟩ | go_keep) (fun hHeld => ?_)
                          clear hK K
                          try simp only [Act.put, List.getElem_toArray, List.getElem_cons_zero, List.getElem_cons_succ, List.setIfInBounds_toArray, List.set_cons_zero, List.set_cons_succ]
                          refine wpAnyH_done (by kernel_rfl) ?_ _
                          clear g3 r0 r1
                          go_wp2
                          go_roundw
                          case rel => exact ⟨k + 1, HLT.out, by go_num, HZ1.out, by rw [HDOC.out]; exact HFI2.out.dropSnd⟩
                          case measure => first | exact meas_lt hlt | (rw [m4]; exact meas_lt hlt)

                    case false =>
                      have HUY : Hid (y = 0) := Lib.hid (by
                        rcases HY.out with h | h
                        · exact h
                        · exact absurd (decide_eq_true h) (by rw [← HUU.out]; decide))
                      go_wp2
                      go_loop [9] (fun q => ∃ j : Nat, j ≤ m ∧ q = .int .i64 j ∧ ∀ i, i < j → nth D i = 0) (fun q => m - (intOf q).toNat)
                      case atStart => exact ⟨0, Nat.zero_le _, rfl, fun i hi => absurd hi (Nat.not_lt_zero i)⟩
                      case round =>
                        obtain ⟨j, hj, rfl, hall⟩ := hrel
                        by_cases hjm : j < m
                        · have hjI : (j : Int) < (m : Int) := by omega
                          obtain ⟨b3, o3, hA3, -, hcj⟩ := HRD.out.at_ (k := j) (by rw [HDL.out]; exact hjm)
                          subst hA3
                          have HALL := Lib.hid hall
                          obtain ⟨x, hx⟩ : ∃ x, x = nth D j := ⟨_, rfl⟩
                          rw [← hx] at hcj
                          have HX := Lib.hid hx
                          clear hj hall hx
                          by_cases hx0 : x = 0
                          · have t0 : ((x : Int) != 0) = false := by rw [hx0]; rfl
                            have HX0 := Lib.hid hx0
                            clear hx0
                            go_wp2
                            go_round
                            case rel => exact ⟨j + 1, hjm, by go_num, fun i hi => by
                              rcases Nat.lt_or_ge i j with h | h
                              · exact HALL.out i h
                              · obtain rfl : i = j := by omega
                                rw [← HX.out]; exact HX0.out⟩
                            case measure => exact meas_lt hjm
                          · have t0 : ((x : Int) != 0) = true := bne_iff_ne.2 (by omega)
                            have HR9 : Hid (recErr R s k = 94) := Lib.hid (by
                              rw [HRE.out, if_pos HUY.out, if_neg]
                              intro hzb
                              exact hx0 (by rw [HX.out]; exact zeroB_iff.2 hzb j))
                            have HF9 := Lib.hid (HFI.out (by rw [HR9.out]; decide))
                            clear hx0
                            go_wp2
                            go_ret2
                            exact .inl ⟨by rw [← HER.out.1, HE.out, HF9.out, HR9.out]; decide, by rw [← HER.out.1, HE.out, HF9.out, HR9.out]; rfl, HS2.out.bel⟩
                        · obtain rfl : m = j := by omega
                          have HR0 : Hid (recErr R s k = 0) := Lib.hid (by
                            rw [HRE.out, if_pos HUY.out, if_pos]
                            refine zeroB_iff.1 fun i => ?_
                            by_cases hi : i < D.length
                            · exact hall i (by rw [← HDL.out]; exact hi)
                            · exact nth_ge (by omega))
                          have HZ1 := Lib.hid (HNX.out HR0.out)
                          clear hj hjm hall
                          go_upto_region 25 with fail
                          have g3 := HG3.out
                          have HBY : Hid ((k + 1) * 32 ≤ 140737488355328) := Lib.hid (by have h1 := HN.out; have h2 := HLT.out; omega)
                          have HOW : Hid (wc.drew.ownsRow 0 82 2 (.slice A9 k cap9) k (X.flatMap rcF)) := Lib.hid (by have := H9d.out.bring2.ow; rw [← HXL.out] at this; exact this)
                          obtain ⟨a0, a1⟩ := recCells (H9.out.alloc (.cells #[.bool false, .slice A3 m c3] 82)).bring4
                          obtain ⟨-, -, -, a3⟩ := df_cells (H9.out.alloc (.cells #[.bool false, .slice A3 m c3] 82)).swap
                          have HFIN := Lib.hid (fun (gg cap2 : Nat) (w4 : World) hown hgrow hat => growRec (S0 := Zf) (l := [BlkA rr 82 #[.bool false, .slice A3 m c3]]) (w0 := w) (g := g) (K := (kd : Int)) (V := (vr : Int)) (S := (s : Int)) (L := docL R s k) (z := m) (n := k) (cap := cap9) (c3 := c3) (gg := gg) (cap2 := cap2) (X := X) (A := A9) (A3 := A3) (w3 := wc.drew) (w4 := w4) (r := ⟨false, D⟩) HDL.out HM9.out HXL.out H9d.out hown hgrow hat)
                          refine wp_region_held_drew (S := (fun w' => w'.cell? ⟨rr, 0, none⟩ = some (.bool false) ∧ w'.cell? ⟨rr, 1, none⟩ = some (.slice A3 m c3))) (by kernel_rfl) (by (try dsimp only); first | exact hHeld | exact ⟨y4, y5⟩ | go_keep) (fun hHeld => ?_)
                          refine wpAnyH_take (i := 0) (v := ?_) rfl (by kernel_rfl) (by kernel_rfl) (by kernel_rfl) (fun _ _ _ h => h) (Or.inl ⟨by rfl, ?_⟩) (by assumption) ?_
                          rotate_left
                          · (intro w hSw; (try dsimp only at hSw); go_simp; try with_reducible rfl)
                          try simp only [Act.put, List.getElem_toArray, List.getElem_cons_zero, List.getElem_cons_succ, List.setIfInBounds_toArray, List.set_cons_zero, List.set_cons_succ]
                          refine wpAnyH_take (i := 1) (v := ?_) rfl (by kernel_rfl) (by kernel_rfl) (by kernel_rfl) (fun _ _ _ h => h) (Or.inl ⟨by rfl, ?_⟩) (by assumption) ?_
                          rotate_left
                          · (intro w hSw; (try dsimp only at hSw); go_simp; try with_reducible rfl)
                          try simp only [Act.put, List.getElem_toArray, List.getElem_cons_zero, List.getElem_cons_succ, List.setIfInBounds_toArray, List.set_cons_zero, List.set_cons_succ]
                          refine wpAnyH_take (i := 2) (v := ?_) rfl (by kernel_rfl) (by kernel_rfl) (by kernel_rfl) (fun _ _ _ h => h) (Or.inl ⟨by rfl, ?_⟩) (by assumption) ?_
                          rotate_left
                          · (intro w hSw; (try dsimp only at hSw); go_simp; try with_reducible rfl)
                          try simp only [Act.put, List.getElem_toArray, List.getElem_cons_zero, List.getElem_cons_succ, List.setIfInBounds_toArray, List.set_cons_zero, List.set_cons_succ]
                          refine wpAnyH_take (i := 3) (v := ?_) rfl (by kernel_rfl) (by kernel_rfl) (by kernel_rfl) (fun _ _ _ h => h) (Or.inl ⟨by rfl, ?_⟩) (by assumption) ?_
                          rotate_left
                          · (intro w hSw; (try dsimp only at hSw); go_simp; try with_reducible rfl)
                          try simp only [Act.put, List.getElem_toArray, List.getElem_cons_zero, List.getElem_cons_succ, List.setIfInBounds_toArray, List.set_cons_zero, List.set_cons_succ]
                          refine wpAnyH_take (i := 5) (v := ?_) rfl (by kernel_rfl) (by kernel_rfl) (by kernel_rfl) (fun _ _ _ h => h) (Or.inl ⟨by rfl, ?_⟩) (by assumption) ?_
                          rotate_left
                          · (intro w hSw; (try dsimp only at hSw); go_simp; try with_reducible rfl)
                          try simp only [Act.put, List.getElem_toArray, List.getElem_cons_zero, List.getElem_cons_succ, List.setIfInBounds_toArray, List.set_cons_zero, List.set_cons_succ]
                          refine wpAnyH_ready (rs := [4, 6]) (by kernel_rfl) (by simp) ?_
                          refine AllReadyH.cons rfl (fun K hK => ?_) ?_
                          · go_simp
                            refine hK.out _ _ (by (try dsimp only); first | exact hHeld | exact ⟨y4, y5⟩ | go_keep) (fun hHeld => ?_)
                            clear hK K
                            try simp only [Act.put, List.getElem_toArray, List.getElem_cons_zero, List.getElem_cons_succ, List.setIfInBounds_toArray, List.set_cons_zero, List.set_cons_succ]
                            refine wpAnyH_ready (rs := [6]) (by kernel_rfl) (by simp) ?_
                            refine AllReadyH.cons rfl (fun K hK => ?_) AllReadyH.nil
                            go_simp
                            refine hK.out _ _ (by (try dsimp only); first | exact hHeld | exact ⟨y4, y5⟩ | go_keep) (fun hHeld => ?_)
                            clear hK K
                            try simp only [Act.put, List.getElem_toArray, List.getElem_cons_zero, List.getElem_cons_succ, List.setIfInBounds_toArray, List.set_cons_zero, List.set_cons_succ]
                            refine wpAnyH_ready (rs := [7]) (by kernel_rfl) (by simp) ?_
                            refine AllReadyH.cons rfl (fun K hK => ?_) AllReadyH.nil
                            refine step_append_row wc.drew (by rfl) _ _ _ (by rfl) 82 i0 zz 2 32 Tryd.underlying65 hi hzz hs0 hby hzs (by omega) (by omega) _ k (X.flatMap rcF) (by rfl) HOW.out #[.bool false, .slice A3 m c3] (by rfl) (by intro u hu; simp only [List.mem_cons, List.not_mem_nil, or_false] at hu; rcases hu with rfl | rfl <;> rfl) (by rfl) HBY.out ?_
                            intro gg cap2 w4 hown4 hgrow4 hat4 hltg4
                            obtain ⟨H4, f3, hfin⟩ := HFIN.out gg cap2 w4 hown4 hgrow4 hat4
                            have HFI2 := Lib.hid hfin
                            have H4 := Lib.hid H4
                            obtain ⟨y0, y1⟩ := recCells H4.out.bring4
                            obtain ⟨-, -, -, y3⟩ := df_cells H4.out
                            obtain ⟨y4, y5⟩ := recCells (H4.out.setBlk 3 (.slice (some ⟨gg, 0, none⟩) (k + 1) cap2)).bring4
                            clear hown4 hgrow4 hat4 hltg4 hfin
                            refine hK.out _ _ (by (try dsimp only); first | exact hHeld | exact ⟨y4, y5⟩ | go_keep) (fun hHeld => ?_)
                            clear hK K
                            try simp only [Act.put, List.getElem_toArray, List.getElem_cons_zero, List.getElem_cons_succ, List.setIfInBounds_toArray, List.set_cons_zero, List.set_cons_succ]
                            refine wpAnyH_take (i := 8) (v := ?_) rfl (by kernel_rfl) (by kernel_rfl) (by kernel_rfl) (fun _ _ _ h => h) (Or.inl ⟨by rfl, ?_⟩) (by assumption) ?_
                            rotate_left
                            · (intro w hSw; (try dsimp only at hSw); go_simp; try with_reducible rfl)
                            try simp only [Act.put, List.getElem_toArray, List.getElem_cons_zero, List.getElem_cons_succ, List.setIfInBounds_toArray, List.set_cons_zero, List.set_cons_succ]
                            refine wpAnyH_take (i := 9) (v := ?_) rfl (by kernel_rfl) (by kernel_rfl) (by kernel_rfl) (fun _ _ _ h => h) (Or.inl ⟨by rfl, ?_⟩) (by assumption) ?_
                            rotate_left
                            · (intro w hSw; (try dsimp only at hSw); go_simp; try with_reducible rfl)
                            try simp only [Act.put, List.getElem_toArray, List.getElem_cons_zero, List.getElem_cons_succ, List.setIfInBounds_toArray, List.set_cons_zero, List.set_cons_succ]
                            refine wpAnyH_ready (rs := [10]) (by kernel_rfl) (by simp) ?_
                            refine AllReadyH.cons rfl (fun K hK => ?_) AllReadyH.nil
                            go_simp
                            refine hK.out _ _ (by (try dsimp only); first | exact hHeld | exact ⟨y4, y5⟩ | go_keep) (fun hHeld => ?_)
                            clear hK K
                            try simp only [Act.put, List.getElem_toArray, List.getElem_cons_zero, List.getElem_cons_succ, List.setIfInBounds_toArray, List.set_cons_zero, List.set_cons_succ]
                            refine wpAnyH_done (by kernel_rfl) ?_ _
                            clear g3 r0 r1
                            go_wp2
                            go_roundw
                            case rel => exact ⟨k + 1, HLT.out, by go_num, HZ1.out, by rw [HDOC.out]; exact HFI2.out.dropSnd⟩
                            case measure => first | exact meas_lt hlt | (rw [m4]; exact meas_lt hlt)
                          refine AllReadyH.cons rfl (fun K hK => ?_) AllReadyH.nil
                          go_simp
                          refine hK.out _ _ (by (try dsimp only); first | exact hHeld | exact ⟨y4, y5⟩ | go_keep) (fun hHeld => ?_)
                          clear hK K
                          try simp only [Act.put, List.getElem_toArray, List.getElem_cons_zero, List.getElem_cons_succ, List.setIfInBounds_toArray, List.set_cons_zero, List.set_cons_succ]
                          refine wpAnyH_ready (rs := [4]) (by kernel_rfl) (by simp) ?_
                          refine AllReadyH.cons rfl (fun K hK => ?_) AllReadyH.nil
                          go_simp
                          refine hK.out _ _ (by (try dsimp only); first | exact hHeld | exact ⟨y4, y5⟩ | go_keep) (fun hHeld => ?_)
                          clear hK K
                          try simp only [Act.put, List.getElem_toArray, List.getElem_cons_zero, List.getElem_cons_succ, List.setIfInBounds_toArray, List.set_cons_zero, List.set_cons_succ]
                          refine wpAnyH_ready (rs := [7]) (by kernel_rfl) (by simp) ?_
                          refine AllReadyH.cons rfl (fun K hK => ?_) AllReadyH.nil
                          refine step_append_row wc.drew (by rfl) _ _ _ (by rfl) 82 i0 zz 2 32 Tryd.underlying65 hi hzz hs0 hby hzs (by omega) (by omega) _ k (X.flatMap rcF) (by rfl) HOW.out #[.bool false, .slice A3 m c3] (by rfl) (by intro u hu; simp only [List.mem_cons, List.not_mem_nil, or_false] at hu; rcases hu with rfl | rfl <;> rfl) (by rfl) HBY.out ?_
                          intro gg cap2 w4 hown4 hgrow4 hat4 hltg4
                          obtain ⟨H4, f3, hfin⟩ := HFIN.out gg cap2 w4 hown4 hgrow4 hat4
                          have HFI2 := Lib.hid hfin
                          have H4 := Lib.hid H4
                          obtain ⟨y0, y1⟩ := recCells H4.out.bring4
                          obtain ⟨-, -, -, y3⟩ := df_cells H4.out
                          obtain ⟨y4, y5⟩ := recCells (H4.out.setBlk 3 (.slice (some ⟨gg, 0, none⟩) (k + 1) cap2)).bring4
                          clear hown4 hgrow4 hat4 hltg4 hfin
                          refine hK.out _ _ (by (try dsimp only); first | exact hHeld | exact ⟨y4, y5⟩ | go_keep) (fun hHeld => ?_)
                          clear hK K
                          try simp only [Act.put, List.getElem_toArray, List.getElem_cons_zero, List.getElem_cons_succ, List.setIfInBounds_toArray, List.set_cons_zero, List.set_cons_succ]
                          refine wpAnyH_take (i := 8) (v := ?_) rfl (by kernel_rfl) (by kernel_rfl) (by kernel_rfl) (fun _ _ _ h => h) (Or.inl ⟨by rfl, ?_⟩) (by assumption) ?_
                          rotate_left
                          · (intro w hSw; (try dsimp only at hSw); go_simp; try with_reducible rfl)
                          try simp only [Act.put, List.getElem_toArray, List.getElem_cons_zero, List.getElem_cons_succ, List.setIfInBounds_toArray, List.set_cons_zero, List.set_cons_succ]
                          refine wpAnyH_take (i := 9) (v := ?_) rfl (by kernel_rfl) (by kernel_rfl) (by kernel_rfl) (fun _ _ _ h => h) (Or.inl ⟨by rfl, ?_⟩) (by assumption) ?_
                          rotate_left
                          · (intro w hSw; (try dsimp only at hSw); go_simp; try with_reducible rfl)
                          try simp only [Act.put, List.getElem_toArray, List.getElem_cons_zero, List.getElem_cons_succ, List.setIfInBounds_toArray, List.set_cons_zero, List.set_cons_succ]
                          refine wpAnyH_ready (rs := [10]) (by kernel_rfl) (by simp) ?_
                          refine AllReadyH.cons rfl (fun K hK => ?_) AllReadyH.nil
                          go_simp
                          refine hK.out _ _ (by (try dsimp only); first | exact hHeld | exact ⟨y4, y5⟩ | go_keep) (fun hHeld => ?_)
                          clear hK K
                          try simp only [Act.put, List.getElem_toArray, List.getElem_cons_zero, List.getElem_cons_succ, List.setIfInBounds_toArray, List.set_cons_zero, List.set_cons_succ]
                          refine wpAnyH_done (by kernel_rfl) ?_ _
                          clear g3 r0 r1
                          go_wp2
                          go_roundw
                          case rel => exact ⟨k + 1, HLT.out, by go_num, HZ1.out, by rw [HDOC.out]; exact HFI2.out.dropSnd⟩
                          case measure => first | exact meas_lt hlt | (rw [m4]; exact meas_lt hlt)

              · obtain rfl : k = n := by omega
                have HZ := Lib.hid hz
                have HST := Lib.hid hst
                clear hz hst
                go_wp2
                go_ret2
                refine .inr ⟨by rw [← HER.out.1, HE.out]; exact HZ.out, g, rfl, ?_⟩
                rw [HKV.out.1, HKV.out.2.1, HKV.out.2.2.1, HKV.out.2.2.2, HER.out.2.symm]
                exact HST.out

end
end Go.Proofs.YtcclcecjidlojaaDoor
