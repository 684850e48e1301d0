/- For every right graph: the nodes' degrees come to twice the relationships, a loop counted once. -/
import Derived.Test.YthnaipgdjbaebaaGreatOpen
import Derived.Test.YthnaipgdjbaebaaGreatRows
import Derived.Test.YthnaipgdjbaebaaGreatGrSpeak
import Derived.Test.YthnaipgdjbaebaaGreatGrOpenG
import Derived.Test.YthnaipgdjbaebaaGreatGrHands
import Derived.Test.YthnaipgdjbaebaaGreatGrCopyA
import Derived.Deep.QuietTactic
import Derived.BigQuiet
import Derived.Deep.RegionHeld3
import Derived.Deep.Cut
namespace Go.Proofs.YthnaipgdjbaebaaGreat.graphHands
open Go.ChangeShapes Go.WideShapes Go.ChangeAt Go.RowKit
open Go.ChangeMaps (open_string shut_string)
set_option linter.unusedVariables false
set_option linter.unusedSimpArgs false

set_option maxRecDepth 100000 in
set_option maxHeartbeats 4000000 in
theorem walk (w : World) {g : Gv} {A : Option Addr} {c : Nat} {A' : Option Addr} {c' : Nat} (hx : GR w w.heap.size g A A' ∧ GBig g) :
    Calls Tryz.prog 10 #[gagg g A c A' c'] w fun e w' => e = .returned (.bool true) ∧ Below w.heap.size w w' := by
  obtain ⟨hg, hb⟩ := hx
  have hids := hg.ids
  have hbw : ∀ w', Below w.heap.size w w' → GR w' w'.heap.size g A A' := fun w' h => (hg.below h).more h.size
  have HC : Hid (∀ (l : List Ass) (w' : World) [Stable (Sep l)], St Zf l w w' → Calls Tryz.prog 18 #[gagg g A c A' c'] w' fun e w'' => ∃ D d D' d', e = .returned (gagg g D d D' d') ∧ St Zf (GA g D d D' d' :: l) w w'') := Lib.hid fun l w' _ h =>
    (refGCopy_any g A A' c c' w'.heap.size w' (hbw w' h.bel) hb (Nat.le_refl _)).mono fun e w'' ⟨D, d, D', d', F, e1, e2, e3, e4⟩ => ⟨D, d, D', d', e1, h.add e4 e2 e3⟩
  have hgc := gcheck_zero g
  have HZ : Hid ((gcheck g).1 = 0 → g.nodes.length ≤ 1024 ∧ g.rels.length ≤ 2048 ∧ degs g.rels g.nodes = ends g.rels) := Lib.hid fun h => by
    obtain ⟨z1, z2⟩ := hgc h
    have l1 := cnodes_len _ _ _ z1 (by omega)
    have l2 := crels_len _ _ _ _ z2 (by omega)
    exact ⟨by omega, by omega, hands _ (cnodes_rise _ _ _ z1).2 _ (crels_ends _ _ _ _ z2)⟩
  have HD : Hid (g.rels.length ≤ 2048 → ∀ (l : List Ass) w' D d D' d' n, i64ok n → St Zf (GA g D d D' d' :: l) w w' → Calls Tryz.prog 25 #[gagg g D d D' d', .int .i64 n] w' fun e w'' => e = .returned (.int .i64 ((touchIds g.rels n).length : Int)) ∧ Below w'.heap.size w' w'') := Lib.hid fun hl l w' D d D' d' n hn h => by
    obtain ⟨F, hF⟩ := h.head
    have hG := hF.reads hg.2.2.1 hg.2.2.2
    exact gDegree_any D D' g.nodes.length d d' w'.heap.size g.rels n w' hG.2.1 (Nat.le_refl _) hG.2.2.2 (by omega) hn
  have HR : Hid (∀ w', Below w.heap.size w w' → Calls Tryz.prog 20 #[gagg g A c A' c'] w' fun e w'' => e = .returned (.tuple #[.int .i64 (gcheck g).1, .int .i64 (gcheck g).2]) ∧ Below w'.heap.size w' w'') := Lib.hid fun w' hb' =>
    refCheck6_any g A A' c c' w'.heap.size w' (hbw w' hb') (Nat.le_refl _)
  have HF : Hid (∀ (l : List Ass) w', St Zf (BlkA w.heap.size 27 #[.slice A g.nodes.length c, .slice A' g.rels.length c'] :: l) w w' → w'.cell? ⟨w.heap.size, 0, none⟩ = some (.slice A g.nodes.length c) ∧ w'.cell? ⟨w.heap.size, 1, none⟩ = some (.slice A' g.rels.length c')) := Lib.hid fun l w' h => gr_cells h
  have h0 := (St.start Zf w).newBlk 27 #[.slice A g.nodes.length c, .slice A' g.rels.length c']
  obtain ⟨wo, hwo⟩ : ∃ x, x = w.alloc (.cells #[.slice A g.nodes.length c, .slice A' g.rels.length c'] 27) := ⟨_, rfl⟩
  rw [← hwo] at h0
  have Hwo := Lib.hid hwo
  have HGR : Hid (∀ w', Below w.heap.size w w' → GR w' w'.heap.size g A A') := Lib.hid hbw
  obtain ⟨t, ht⟩ : ∃ t, t = (gcheck g).1 := ⟨_, rfl⟩
  obtain ⟨s, hs⟩ : ∃ t, t = (gcheck g).2 := ⟨_, rfl⟩
  rw [← ht] at HZ
  rw [← ht, ← hs] at HR
  simp only [gagg] at HC HD HR ⊢
  clear hg hb hbw hwo ht hs hids hgc
  obtain ⟨N, R⟩ := g
  simp only at HC HD HR HF HZ h0 Hwo ⊢
  by_cases ht0 : t = 0
  case neg =>
    have hne : (t != 0) = true := by simpa using ht0
    clear ht0 HZ HC HD
    go_enter Tryz.func10, Tryz.ntmps10
    go_wp2_with fail
    rw [← Hwo.out]
    refine (speaks6_any wo).mono ?_
    rintro e w1 ⟨rfl, hb1⟩
    have h1 := h0.below hb1
    obtain ⟨c0, c1⟩ := HF.out _ _ h1
    clear h0 hb1
    go_wp2_with fail
    refine (HR.out _ h1.bel).mono ?_
    rintro e w2 ⟨rfl, hb2⟩
    have h2 := h1.below hb2
    clear c0 c1 h1
    go_wp2
    go_ret
    exact ⟨rfl, h2.bel⟩
  case pos =>
  subst ht0
  obtain ⟨ln, lr, hands⟩ := HZ.out rfl
  have HD := Lib.hid (HD.out lr)
  have hbig := degs_le R N
  have hb3 : N.length * R.length ≤ 1024 * 2048 := Nat.mul_le_mul ln lr
  have hb4 := ends_le R
  have HDb : Hid (∀ k, degs R (N.take k) ≤ 2097152) := Lib.hid fun k => by
    have h1 := degs_le R (N.take k)
    have h2 : (N.take k).length * R.length ≤ 1024 * 2048 := Nat.mul_le_mul (by rw [List.length_take]; omega) lr
    omega
  have HEb : Hid (∀ k, ends (R.take k) ≤ 4096) := Lib.hid fun k => by
    have h1 := ends_le (R.take k)
    rw [List.length_take] at h1
    omega
  have Hh := Lib.hid hands
  clear hands hbig hb3 hb4 HZ
  go_enter Tryz.func10, Tryz.ntmps10
  go_wp2_with fail
  rw [← Hwo.out]
  refine (speaks6_any wo).mono ?_
  rintro e w1 ⟨rfl, hb1⟩
  have h1 := h0.below hb1
  obtain ⟨c0, c1⟩ := HF.out _ _ h1
  clear h0 hb1
  go_wp2_with fail
  refine (HR.out _ h1.bel).mono ?_
  rintro e w2 ⟨rfl, hb2⟩
  have h2 := h1.below hb2
  obtain ⟨c0, c1⟩ := HF.out _ _ h2
  clear h1 hb2
  go_wp2_with fail
  refine (HC.out _ _ h2).mono ?_
  rintro e w3 ⟨D, d, D', d', rfl, h3⟩
  have h4 := h3.newBlk 27 #[.slice D N.length d, .slice D' R.length d']
  have hlt3 := h3.drop.blk.lt
  obtain ⟨y0, y1⟩ := HF.out _ _ h3.drop
  obtain ⟨w4, hw4⟩ : ∃ x, x = w3.alloc (.cells #[.slice D N.length d, .slice D' R.length d'] 27) := ⟨_, rfl⟩
  rw [← hw4] at h4
  have Hw4 := Lib.hid hw4
  clear hw4 h3 c0 c1 h2
  go_wp2
  rw [← Hw4.out]
  clear y0 y1
  go_loopw [6, 26] (fun sv iv wr => ∃ k : Nat, k ≤ N.length ∧ sv = .int .i64 (degs R (N.take k) : Nat) ∧ iv = .int .i64 k ∧ St Zf [BlkA w3.heap.size 27 #[.slice D N.length d, .slice D' R.length d'], GA ⟨N, R⟩ D d D' d', BlkA w.heap.size 27 #[.slice A N.length c, .slice A' R.length c']] w wr) (fun _ iv _ => N.length - (intOf iv).toNat)
  case atStart => exact ⟨0, Nat.zero_le _, rfl, rfl, h4⟩
  case round =>
    obtain ⟨k, hk, rfl, rfl, hst⟩ := hrel
    clear h4
    obtain ⟨x0, x1⟩ := gr_cells hst
    have hlm := hst.blk.lt
    obtain ⟨y0, y1⟩ := HF.out _ _ hst.bring2
    have hbw := hst.bel
    have hsz := hbw.size
    by_cases hlt : k < N.length
    · obtain ⟨n, hp⟩ : ∃ p, N[k]? = some p := ⟨_, List.getElem?_eq_getElem hlt⟩
      have htk : N.take (k + 1) = N.take k ++ [n] := by
        rw [List.take_succ_eq_append_getElem hlt]
        rw [List.getElem?_eq_getElem hlt] at hp
        injection hp with hp
        rw [hp]
      have hdg := degs_snoc R (N.take k) n
      rw [← htk] at hdg
      have hdb := HDb.out (k + 1)
      obtain ⟨b, off, rfl, hbB, A2, c2, A3, c3, hc, hr1, hr2, hid, hs1, hs2, hs3⟩ := (HGR.out _ hbw).1 k _ hp
      obtain ⟨q0, q1, q2⟩ := node_cells hc
      obtain ⟨pid, pl, pp⟩ := n
      simp only at q0 q1 q2 hid hdg
      have hi0 : (0 : Int) ≤ (k : Int) := by omega
      have hi1 : (k : Int) < (N.length : Int) := by omega
      have hn := hst.newBlk 40 #[.int .i64 pid, .slice A2 pl.length c2, .slice A3 pp.length c3]
      obtain ⟨w5, hw5⟩ : ∃ x, x = wr.alloc (.cells #[.int .i64 pid, .slice A2 pl.length c2, .slice A3 pp.length c3] 40) := ⟨_, rfl⟩
      rw [← hw5] at hn
      have Hw5 := Lib.hid hw5
      have HDn := Lib.hid (HD.out _ w5 D d D' d' pid hid hn.bring2)
      have Hn := Lib.hid hn.drop
      clear hc hr1 hr2 hs1 hs2 hs3 hp htk hw5 hn hst
      generalize (touchIds R pid).length = T at HDn hdg
      generalize degs R (N.take k) = S0 at *
      rw [hdg] at hdb
      have Hdg := Lib.hid hdg
      clear hdg
      go_wp2_with fail
      rw [← Hw5.out]
      refine HDn.out.mono ?_
      rintro e w6 ⟨rfl, hb6⟩
      have h6 := Hn.out.below hb6
      go_wp2
      go_roundw
      case rel => exact ⟨k + 1, by omega, by rw [Hdg.out]; go_num, by go_num, h6⟩
      case measure => simp [intOf]; omega
    · obtain rfl : k = N.length := by omega
      rw [List.take_length]
      have hdd := Hh.out
      generalize degs R N = S0 at *
      clear x0 x1 hlm
      go_wp2
      clear y0 y1
      go_loopw [7, 40] (fun sv iv wr => ∃ k : Nat, k ≤ R.length ∧ sv = .int .i64 (ends (R.take k) : Nat) ∧ iv = .int .i64 k ∧ St Zf [BlkA w3.heap.size 27 #[.slice D N.length d, .slice D' R.length d'], GA ⟨N, R⟩ D d D' d', BlkA w.heap.size 27 #[.slice A N.length c, .slice A' R.length c']] w wr) (fun _ iv _ => R.length - (intOf iv).toNat)
      case atStart => exact ⟨0, Nat.zero_le _, rfl, rfl, hst⟩
      case round =>
        obtain ⟨k, hk, rfl, rfl, hst⟩ := hrel
        clear hbw hsz
        obtain ⟨y0, y1⟩ := HF.out _ _ hst.bring2
        have hbw := hst.bel
        have hsz := hbw.size
        by_cases hlt : k < R.length
        · obtain ⟨r, hp⟩ : ∃ p, R[k]? = some p := ⟨_, List.getElem?_eq_getElem hlt⟩
          have htk : R.take (k + 1) = R.take k ++ [r] := by
            rw [List.take_succ_eq_append_getElem hlt]
            rw [List.getElem?_eq_getElem hlt] at hp
            injection hp with hp
            rw [hp]
          have hdg := ends_snoc (R.take k) r
          rw [← htk] at hdg
          have hdb := HEb.out (k + 1)
          obtain ⟨b, off, rfl, hbB, A3, c3, hc, hr2, hi1, hi2, hi3, hs1, hs2⟩ := (HGR.out _ hbw).2.1 k _ hp
          obtain ⟨q0, q1, q2, q3, q4⟩ := rel_cells hc
          obtain ⟨pid, pt, ps, pd, pp⟩ := r
          simp only at q0 q1 q2 q3 q4 hi1 hi2 hi3 hdg
          have hi0 : (0 : Int) ≤ (k : Int) := by omega
          have hik : (k : Int) < (R.length : Int) := by omega
          have hn := hst.newBlk 47 #[.int .i64 pid, .string pt, .int .i64 ps, .int .i64 pd, .slice A3 pp.length c3]
          obtain ⟨w5, hw5⟩ : ∃ x, x = wr.alloc (.cells #[.int .i64 pid, .string pt, .int .i64 ps, .int .i64 pd, .slice A3 pp.length c3] 47) := ⟨_, rfl⟩
          rw [← hw5] at hn
          have Hw5 := Lib.hid hw5
          have Hn := Lib.hid hn.drop
          clear hc hr2 hs1 hs2 hp htk hw5 hn hst
          generalize ends (R.take k) = S1 at *
          by_cases hsd : ps = pd
          · subst hsd
            rw [if_pos rfl] at hdg
            rw [hdg] at hdb
            have Hdg := Lib.hid hdg
            clear hdg
            go_wp2
            rw [← Hw5.out]
            go_roundw
            case rel => exact ⟨k + 1, by omega, by rw [Hdg.out]; go_num, by go_num, Hn.out⟩
            case measure => simp [intOf]; omega
          · rw [if_neg hsd] at hdg
            rw [hdg] at hdb
            have Hdg := Lib.hid hdg
            clear hdg
            have hne : (ps == pd) = false := by simpa using hsd
            go_wp2
            rw [← Hw5.out]
            go_roundw
            case rel => exact ⟨k + 1, by omega, by rw [Hdg.out]; go_num, by go_num, Hn.out⟩
            case measure => simp [intOf]; omega
        · obtain rfl : k = R.length := by omega
          rw [List.take_length, ← hdd]
          go_wp2
          go_ret
          exact ⟨rfl, hbw⟩

/-! ### THE ROW's STEP -/
theorem own : ownKnob Tryz.prog.godebug = none := by kernel_rfl
theorem laidOut : laidOutB Tryz.prog = true := by kernel_rfl

set_option maxRecDepth 100000 in
theorem contract (H : Type) (enc : TypeId × Value → H) (W : World) (base : Nat) (args : Array Value) (ds gs : List (DataW H)) (before : List MemPlace)
    (hval0 : ∀ (j : Nat) t v, Tryz.f10.params[j]? = some t → args[j]? = some v → Value.okWide Tryz.prog W .any base t v)
    (hW : DataW.Whole enc Tryz.prog Tryz.f10.params.toList Rows.graphHandsSpec.vars false W args.toList ds gs before)
    (hsz : (DataW.weightsEach Tryz.prog (Tryz.f10.params.toList ++ (OpenSpec.ofChange Rows.graphHandsSpec).bare.plain.varTypes Tryz.prog) (ds ++ gs)).all (· ≤ reachBytes) = true) :
    Calls Tryz.prog 10 args W fun e W' => ∃ v, e = .returned v ∧ Rows.graphHandsSpec.post enc Tryz.prog Tryz.f10 false true false false W args v W' := by
  have hval : ∀ (j : Nat) t v, Tryz.f10.params[j]? = some t → args[j]? = some v → Value.okWide Tryz.prog W .any base t v := hval0
  have hW' := hW
  obtain ⟨p, q, hA0, hV, rfl, hfz, hnd⟩ := hW
  have hA : DataW.TrodAll enc Tryz.prog W 0 (fun _ => true) true Tryz.f10.params.toList args.toList ds p := hA0
  rw [Tryz.params10] at hA hval
  obtain ⟨v0, vs0, d0, ds0, p0, q0, hargs, rfl, rfl, h0, r0⟩ := trodAll_cons hA
  obtain ⟨rfl, rfl, rfl⟩ := trodAll_nil r0
  obtain rfl : args = #[v0] := by cases args; simp_all
  obtain ⟨rfl, rfl⟩ := trodVars_none hV
  have k0 := h0
  have lt0 : ∀ x ∈ p0, x.block < W.heap.size := by obtain ⟨m, hm⟩ := k0; exact DataW.trod_lt m _ _ _ hm
  have w0 := reach_at hsz (j := 0) rfl rfl
  clear hA0 hval0 hsz
  obtain ⟨g0, A0, c0, B0, d0, rfl, hx0⟩ := open_graph (hval 0 _ v0 rfl rfl) w0 h0 lt0
  refine (walk W hx0).mono fun e W' ⟨he, bel⟩ => ?_
  subst he
  exact ⟨_, rfl, _, _, _, [], _, [], hW', trodAll_mk1 (shut_bool Tryz.underlying4 _), (trodAll_cons_mk (Below.trod laidOut (by kernel_rfl) (of_decide_eq_true (by kernel_rfl)) k0 bel lt0) trodAll_mk0), rfl, bel.frame _, fun h => by cases h⟩

set_option maxRecDepth 100000 in
theorem lifted (os : Os) (started : os.Started) (H : Type) (enc : TypeId × Value → H) :
    ReturnsInHanded {} Tryz.checked os 10 .any (Rows.graphHandsSpec.pre6 enc Tryz.prog Tryz.f10 Rows.graphHandsRow.domain false) (Rows.graphHandsSpec.post enc Tryz.prog Tryz.f10 false true false false) := by
  refine returnsInHanded_of_change_sized (C := Tryz.checked) own started (by kernel_rfl) Tryz.func10
    (ChangeSpec.witness6 (enc := enc) (C := Tryz.checked) false ⟨#[], #[.agg #[.slice none 0 0, .slice none 0 0]], []⟩ 8 (by kernel_rfl) (by kernel_rfl) (by kernel_rfl) (by kernel_rfl)) ?_
  intro W base args ds gs before hval hW _ hsz _
  exact contract H enc W base args ds gs before hval hW hsz

/-- THE STATEMENT -/
theorem proved : Rows.GraphHandsSaid :=
  OpenClaim.holds_of_wide 10 Tryz.f10 rfl rfl rfl rfl rfl rfl rfl ⟨rfl, rfl, rfl, rfl, rfl⟩ rfl rfl rfl rfl rfl (by kernel_rfl) Tryz.func10 (by kernel_rfl)
    (of_decide_eq_true (by kernel_rfl)) (by unfold Func.isWrapper; rw [if_neg (of_decide_eq_false (by kernel_rfl))]; exact ⟨rfl, rfl⟩)
    (fun os started H enc _ => lifted os started H enc)
end Go.Proofs.YthnaipgdjbaebaaGreat.graphHands
