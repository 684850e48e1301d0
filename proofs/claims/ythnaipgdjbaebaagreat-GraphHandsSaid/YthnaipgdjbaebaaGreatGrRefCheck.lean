/- The document's Check. -/
import Derived.Test.YthnaipgdjbaebaaGreatGrRefNodeA
import Derived.Test.YthnaipgdjbaebaaGreatGrRefNamesA
import Derived.Test.YthnaipgdjbaebaaGreatGrRefW
import Derived.Deep.QuietTactic
import Derived.BigQuiet
import Derived.IntWalk
import Derived.WalkLawsBesides
namespace Go.Proofs.YthnaipgdjbaebaaGreat
open Go.RowKit
set_option linter.unusedVariables false

theorem GR.ids {w : World} {B : Nat} {g : Gv} {A A' : Option Addr} (h : GR w B g A A') : ∀ x ∈ g.nodes, i64ok x.id := fun x hx => by
  obtain ⟨k, hk, rfl⟩ := List.getElem_of_mem hx
  obtain ⟨b, off, e, hbB, A2, c2, A3, c3, hc, hr1, hr2, hid, _⟩ := h.1 k _ (List.getElem?_eq_getElem hk)
  exact hid
theorem cnodes_drop {N : List Nv} {k : Nat} {n : Nv} (h : N[k]? = some n) (p i : Int) : cnodes p i (N.drop k) = if cnode n p = 0 then cnodes n.id (i + 1) (N.drop (k + 1)) else (cnode n p, i) := by
  have hk : k < N.length := (List.getElem?_eq_some_iff.1 h).1
  have he : N[k] = n := (List.getElem?_eq_some_iff.1 h).2
  rw [List.drop_eq_getElem_cons hk, he, cnodes]

theorem cnodes_ids : ∀ (L : List Nv) (p i : Int), (cnodes p i L).1 = 0 → ∀ n ∈ L, 0 ≤ n.id ∧ n.id < 1024
  | [], _, _, _ => fun n h => by cases h
  | n :: l, p, i, h => by
    simp only [cnodes] at h
    by_cases hz : cnode n p = 0
    · rw [if_pos hz] at h
      intro x hx
      rcases List.mem_cons.1 hx with rfl | hx
      · unfold cnode at hz
        by_cases hc : cid x.id p 1024 61 = 0
        · unfold cid at hc
          split at hc
          · omega
          · omega
        · rw [if_neg hc] at hz
          exact absurd hz hc
      · exact cnodes_ids l _ _ h x hx
    · rw [if_neg hz] at h
      exact absurd h hz
theorem hasId_out {L : List Nv} (h : ∀ n ∈ L, 0 ≤ n.id ∧ n.id < 1024) (j : Int) (hj : j < 0 ∨ 1023 < j) : hasId L j = false := by
  unfold hasId
  rw [List.any_eq_false]
  intro x hx
  have := h x hx
  simp only [decide_eq_true_eq]
  omega
theorem crels_drop {N : List Nv} {R : List Rv} {k : Nat} {r : Rv} (h : R[k]? = some r) (p i : Int) : crels N p i (R.drop k) = if crel r p N = 0 then crels N r.id (i + 1) (R.drop (k + 1)) else (crel r p N, i) := by
  have hk : k < R.length := (List.getElem?_eq_some_iff.1 h).1
  have he : R[k] = r := (List.getElem?_eq_some_iff.1 h).2
  rw [List.drop_eq_getElem_cons hk, he, crels]
theorem cnodes_len : ∀ (L : List Nv) (p i : Int), (cnodes p i L).1 = 0 → p < 1024 → (L.length : Int) + p + 1 ≤ 1024
  | [], p, _, _, hp => by simp only [List.length_nil]; omega
  | n :: l, p, i, h, hp => by
    simp only [cnodes] at h
    by_cases hz : cnode n p = 0
    · rw [if_pos hz] at h
      have hn : p < n.id ∧ n.id < 1024 := by
        unfold cnode at hz
        by_cases hc : cid n.id p 1024 61 = 0
        · unfold cid at hc
          split at hc
          · omega
          · split at hc
            · omega
            · omega
        · rw [if_neg hc] at hz
          exact absurd hz hc
      have := cnodes_len l _ _ h hn.2
      simp only [List.length_cons]
      omega
    · rw [if_neg hz] at h
      exact absurd h hz
theorem crels_len (N : List Nv) : ∀ (L : List Rv) (p i : Int), (crels N p i L).1 = 0 → p < 2048 → (L.length : Int) + p + 1 ≤ 2048
  | [], p, _, _, hp => by simp only [List.length_nil]; omega
  | n :: l, p, i, h, hp => by
    simp only [crels] at h
    by_cases hz : crel n p N = 0
    · rw [if_pos hz] at h
      have hn : p < n.id ∧ n.id < 2048 := by
        unfold crel at hz
        by_cases hc : cid n.id p 2048 62 = 0
        · unfold cid at hc
          split at hc
          · omega
          · split at hc
            · omega
            · omega
        · rw [if_neg hc] at hz
          exact absurd hz hc
      have := crels_len N l _ _ h hn.2
      simp only [List.length_cons]
      omega
    · rw [if_neg hz] at h
      exact absurd h hz
theorem flat_one : ∀ L : List Rv, L.flatMap (fun r : Rv => [r.typ]) = L.map (·.typ)
  | [] => rfl
  | r :: l => by rw [List.flatMap_cons, flat_one l]; rfl
/-- the document's three lists of names are as long as the sets of names are great, and Weight -/
theorem whole_facts (g : Gv) (A A' : Option Addr) (c c' B : Nat) (w : World) (h : GR w B g A A') (hB : B ≤ w.heap.size) (hz : (cnodes (-1) 0 g.nodes).1 = 0) (hz1 : (crels g.nodes (-1) 0 g.rels).1 = 0) :
    (∀ k : Nat, k = 1 ∨ k = 2 ∨ k = 3 → ∀ w', Below w.heap.size w w' → Calls Tryz.prog 27 #[.agg #[.slice A g.nodes.length c, .slice A' g.rels.length c'], .int .i64 (k : Int)] w' fun e w'' => ∃ D d, e = .returned (.slice D (nameCount (gnames g k)) d) ∧ Below w'.heap.size w' w'')
    ∧ ∀ w', Below w.heap.size w w' → Calls Tryz.prog 31 #[.agg #[.slice A g.nodes.length c, .slice A' g.rels.length c']] w' fun e w'' => e = .returned (.int .i64 (weightP (gprops g))) ∧ Below w'.heap.size w' w'' := by
  have l1 := cnodes_len _ _ _ hz (by omega)
  have l2 := crels_len _ _ _ _ hz1 (by omega)
  have Hok := cnodes_ok _ _ _ hz
  have f1 := flat_len (fun n : Nv => n.labels) 8 g.nodes fun n hn => (Hok n hn).1
  have f2 := flat_len (fun n : Nv => n.props.map (·.key)) 16 g.nodes fun n hn => by rw [List.length_map]; exact (Hok n hn).2
  have f3 := flat_len (fun r : Rv => r.props.map (·.key)) 16 g.rels fun r hr => by rw [List.length_map]; exact crels_ok _ _ _ _ hz1 r hr
  have f4 := flat_len (fun _ : Nv => ([] : List ByteArray)) 0 g.nodes fun _ _ => by simp
  have f5 := flat_len (fun _ : Rv => ([] : List ByteArray)) 0 g.rels fun _ _ => by simp
  have f6 := flat_len (fun r : Rv => [r.typ]) 1 g.rels fun _ _ => by simp
  have e1 : gnames g 1 = g.nodes.flatMap (fun n : Nv => n.labels) ++ g.rels.flatMap (fun _ : Rv => ([] : List ByteArray)) := by simp [gnames, labelsOf]
  have e2 : gnames g 2 = g.nodes.flatMap (fun _ : Nv => ([] : List ByteArray)) ++ g.rels.flatMap (fun r : Rv => [r.typ]) := by rw [flat_one]; simp [gnames, typesOf]
  have e3 : gnames g 3 = g.nodes.flatMap (fun n : Nv => n.props.map (·.key)) ++ g.rels.flatMap (fun r : Rv => r.props.map (·.key)) := by simp [gnames, gprops, List.map_flatMap]
  refine ⟨?_, fun w' hb => ?_⟩
  · rintro k hk w' hb
    have hG := h.below (hb.mono hB)
    have hB' : B ≤ w'.heap.size := by have := hb.size; omega
    have main : Calls Tryz.prog 27 #[gagg g A c A' c', .int .i64 (k : Int)] w' (NewSt (srt (gnames g k)) w') := by
      rcases hk with rfl | rfl | rfl
      · rw [e1]; exact refNamesL_any g _ rfl A A' c c' B w' hG hB' (by rw [List.length_append]; omega)
      · rw [e2]; exact refNamesT_any g _ rfl A A' c c' B w' hG hB' (by rw [List.length_append]; omega)
      · rw [e3]; exact refNamesK_any g _ rfl A A' c c' B w' hG hB' (by rw [List.length_append]; omega)
    refine main.mono ?_
    rintro e w'' ⟨v, rfl, ho, hb2⟩
    obtain ⟨D, d, rfl, -, -, -, -⟩ := ho.form
    exact ⟨D, d, by unfold nameCount; rw [srt_count], hb2⟩
  · exact refWeight_any g A A' c c' B w' (h.below (hb.mono hB)) (by have := hb.size; omega)

set_option maxRecDepth 100000 in
set_option maxHeartbeats 4000000 in
theorem refCheck6_any (g : Gv) (A A' : Option Addr) (c c' B : Nat) (w : World) (h : GR w B g A A') (hB : B ≤ w.heap.size) :
    Calls Tryz.prog 20 #[.agg #[.slice A g.nodes.length c, .slice A' g.rels.length c']] w fun e w' => e = .returned (.tuple #[.int .i64 (gcheck g).1, .int .i64 (gcheck g).2]) ∧ Below w.heap.size w w' := by
  obtain ⟨h1, h2, hl1, hl2⟩ := h
  have HC : Hid (∀ e i : Int, cnodes (-1) 0 g.nodes = (e, i) → e ≠ 0 → gcheck g = (e, i)) := Lib.hid fun e i he h0 => by unfold gcheck; rw [he]; simp only; rw [if_neg h0]
  have HR0 : Hid ((cnodes (-1) 0 g.nodes).1 = 0 → gcheck g = if (crels g.nodes (-1) 0 g.rels).1 = 0 then (cwhole g, 0) else ((crels g.nodes (-1) 0 g.rels).1, wrap64 ((g.nodes.length : Int) + (crels g.nodes (-1) 0 g.rels).2))) := Lib.hid fun he => by unfold gcheck; rw [if_pos he]
  obtain ⟨G, hG⟩ : ∃ G, G = gcheck g := ⟨_, rfl⟩
  rw [← hG] at HC HR0 ⊢
  obtain ⟨N, R⟩ := g
  simp only at h1 h2 hl1 hl2 HC HR0 ⊢
  have H1 := Lib.hid h1
  have H2 := Lib.hid h2
  have HWF := Lib.hid (whole_facts ⟨N, R⟩ A A' c c' B w ⟨h1, h2, hl1, hl2⟩ hB)
  have hb0 := (St.start Zf w).newBlk 27 #[.slice A N.length c, .slice A' R.length c']
  obtain ⟨wo, hwo⟩ : ∃ x, x = w.alloc (.cells #[.slice A N.length c, .slice A' R.length c'] 27) := ⟨_, rfl⟩
  rw [← hwo] at hb0
  have hN : wo.heap.size = w.heap.size + 1 := by rw [hwo]; exact Array.size_push _
  have hb1 := hb0.newBlk 68 Tryz.zeroCells68
  rw [hN] at hb1
  obtain ⟨w1, hw1⟩ : ∃ x, x = wo.alloc (.cells Tryz.zeroCells68 68) := ⟨_, rfl⟩
  rw [← hw1] at hb1
  have Hwo := Lib.hid hwo
  have Hw1 := Lib.hid hw1
  have hst := Lib.hid (store_any _ zero_size zero_one wo _ hN)
  clear h1 h2 hb0 hwo hw1 hG
  go_enter Tryz.func20, Tryz.ntmps20
  go_wp2_with fail
  rw [← Hwo.out, hst.out, ← Hw1.out]
  clear hst
  go_wp2
  go_loopw [5, 6] (fun lv iv wr => ∃ (k : Nat) (p : Int) (cs : Array Value), k ≤ N.length ∧ iv = .int .i64 k ∧ lv = .int .i64 p ∧ cnodes p k (N.drop k) = cnodes (-1) 0 N ∧ There cs (N.take k) ∧ St Zf [BlkA (w.heap.size + 1) 68 cs, BlkA w.heap.size 27 #[.slice A N.length c, .slice A' R.length c']] w wr) (fun _ iv _ => N.length - (intOf iv).toNat)
  case atStart => exact ⟨0, -1, _, Nat.zero_le _, rfl, rfl, rfl, zero_there, hb1⟩
  case round =>
    obtain ⟨k, p, cs, hk, rfl, rfl, hcn, hth, hst⟩ := hrel
    clear hb1
    obtain ⟨x0, x1⟩ := gr_cells hst.swap
    have hbw := hst.bel
    have hsz := hbw.size
    by_cases hlt : k < N.length
    · obtain ⟨n, hp⟩ : ∃ p, N[k]? = some p := ⟨_, List.getElem?_eq_getElem hlt⟩
      have htk : N.take (k + 1) = N.take k ++ [n] := by
        rw [List.take_succ_eq_append_getElem hlt]
        rw [List.getElem?_eq_getElem hlt] at hp
        injection hp with hp
        rw [hp]
      obtain ⟨b, off, rfl, hbB, A2, c2, A3, c3, hc, hr1, hr2, hid, hs1, hs2, hs3⟩ := (NodesR.below H1.out (hbw.mono hB)) k _ hp
      obtain ⟨q0, q1, q2⟩ := node_cells hc
      rw [cnodes_drop hp] at hcn
      have hi0 : (0 : Int) ≤ (k : Int) := by omega
      have hi1 : (k : Int) < (N.length : Int) := by omega
      have HTH : Hid (0 ≤ n.id → n.id < 1024 → There (cs.setIfInBounds n.id.toNat (.bool true)) (N.take (k + 1))) := Lib.hid fun h0 h1 => by rw [htk]; exact hth.set h0 h1
      have hset := hst.setBlk n.id.toNat (.bool true)
      have hbs := hset.bel
      have hbB2 : Below B wr (wr.setCell ⟨w.heap.size + 1, n.id.toNat, none⟩ (.bool true)) := (Below.refl B wr).setCell (by show B ≤ w.heap.size + 1; omega) _
      have hnw := refNodeWrong_any n A2 A3 c2 c3 B _ (hr1.below hbB2) (PropsR.below hr2 hbB2) (Nat.le_trans hB hbs.size) hs1 hs2 hs3
      obtain ⟨q3, q4, q5⟩ := node_cells (hc.below hbB2 hbB)
      obtain ⟨x2, x3⟩ := gr_cells hset.swap
      have hcell : ∀ j, j < 1024 → wr.cell? ⟨w.heap.size + 1, j, none⟩ = some (.bool (hasId (N.take k) (j : Int))) := fun j hj => by
        have hb := hst.blk
        rw [hb.cell j]
        exact hth.2 j hj
      obtain ⟨pid, pl, pp⟩ := n
      simp only at q0 q1 q2 q3 q4 q5 hcn hid HTH hset hbs hnw
      unfold cnode at hcn
      simp only at hcn
      clear hc hr1 hr2 hs1 hs2 hs3 hp htk hbB2
      unfold i64ok at hid
      by_cases hr : pid < 0 ∨ 1024 ≤ pid
      · have hz : cid pid p 1024 61 = 61 := by unfold cid; rw [if_pos hr]
        rw [hz, if_neg (show ¬ (61 : Int) = 0 by decide), if_neg (show ¬ (61 : Int) = 0 by decide)] at hcn
        have HG := HC.out _ _ hcn.symm (by decide)
        have HG := Lib.hid HG
        clear hcn hz hset hnw q3 q4 q5 x2 x3 hcell hth HTH
        rcases hr with hr | hr
        · have d1 : decide (pid < 0) = true := decide_eq_true hr
          clear hr
          go_wp2
          go_ret2
          exact ⟨by rw [HG.out]; rfl, hbw⟩
        · have d1 : decide (pid < 0) = false := decide_eq_false (by omega)
          have d2 : decide (1023 < pid) = true := decide_eq_true (by omega)
          clear hr
          go_wp2
          go_ret2
          exact ⟨by rw [HG.out]; rfl, hbw⟩
      · have d1 : decide (pid < 0) = false := decide_eq_false (by omega)
        have d2 : decide (1023 < pid) = false := decide_eq_false (by omega)
        have hr0 : 0 ≤ pid := by omega
        have hr1 : pid < 1024 := by omega
        by_cases hle : pid ≤ p
        · have hz : cid pid p 1024 61 = 6 := by unfold cid; rw [if_neg hr, if_pos hle]
          rw [hz, if_neg (show ¬ (6 : Int) = 0 by decide), if_neg (show ¬ (6 : Int) = 0 by decide)] at hcn
          have HG := HC.out _ _ hcn.symm (by decide)
          have HG := Lib.hid HG
          have d3 : decide (pid ≤ p) = true := decide_eq_true hle
          clear hcn hz hset hnw q3 q4 q5 x2 x3 hcell hth HTH hr hle
          go_wp2
          go_ret2
          exact ⟨by rw [HG.out]; rfl, hbw⟩
        · have hz : cid pid p 1024 61 = 0 := by unfold cid; rw [if_neg hr, if_neg hle]
          rw [hz, if_pos rfl] at hcn
          have d3 : decide (pid ≤ p) = false := decide_eq_false hle
          have q6 := hcell pid.toNat (by omega)
          have fz := hst.blk.frozen pid.toNat
          obtain ⟨e, he⟩ : ∃ e, e = nwrong ⟨pid, pl, pp⟩ := ⟨_, rfl⟩
          have he2 : (if clabels pl = 0 then cpropsAll pp else clabels pl) = e := by rw [he]; rfl
          rw [he2] at hcn
          rw [← he] at hnw
          obtain ⟨ws, hws⟩ : ∃ x, x = wr.setCell ⟨w.heap.size + 1, pid.toNat, none⟩ (.bool true) := ⟨_, rfl⟩
          rw [← hws] at hset hbs hnw q3 q4 q5 x2 x3
          have Hws := Lib.hid hws
          have hth2 := HTH.out hr0 hr1
          clear hz hr hle hcell hth HTH he he2 hws
          by_cases h0 : e = 0
          · subst h0
            rw [if_pos rfl] at hcn
            have Hcn := Lib.hid hcn
            have Hth := Lib.hid hth2
            have hnw := Lib.hid hnw
            have Hset := Lib.hid hset
            clear hcn hth2 hset
            go_wp2_with fail
            rw [← Hws.out]
            refine hnw.out.mono ?_
            rintro e9 w9 ⟨rfl, hb9⟩
            have hst9 := Hset.out.below hb9
            go_wp2
            go_roundw
            case rel => exact ⟨k + 1, pid, _, by omega, by go_num, rfl, Hcn.out, Hth.out, hst9⟩
            case measure => simp [intOf]; omega
          · rw [if_neg h0] at hcn
            have HG := HC.out _ _ hcn.symm h0
            have HG := Lib.hid HG
            have hne : (e != 0) = true := by simpa using h0
            have hnw := Lib.hid hnw
            clear hcn hth2 hset h0
            go_wp2_with fail
            rw [← Hws.out]
            refine hnw.out.mono ?_
            rintro e9 w9 ⟨rfl, hb9⟩
            go_wp2
            go_ret2
            exact ⟨by rw [HG.out]; rfl, hbs.trans (hb9.mono hbs.size)⟩
    · obtain rfl : k = N.length := by omega
      rw [List.drop_of_length_le (Nat.le_refl _)] at hcn
      rw [List.take_length] at hth
      have hz0 : (cnodes (-1) 0 N).1 = 0 := by rw [← hcn]; rfl
      have hGR := HR0.out hz0
      have hids := cnodes_ids _ _ _ hz0
      have hok := cnodes_ok _ _ _ hz0
      have HR : Hid (∀ (e : Int) (i : Nat), i ≤ R.length → crels N (-1) 0 R = (e, (i : Int)) → e ≠ 0 → G = (e, (N.length : Int) + (i : Int))) := Lib.hid fun e i hi he h0 => by rw [hGR, he]; simp only; rw [if_neg h0, show wrap64 ((N.length : Int) + (i : Int)) = (N.length : Int) + (i : Int) by unfold wrap64; omega]
      have HG0 := Lib.hid hGR
      have HWG := Lib.hid (HWF.out hz0)
      clear HWF
      have Hids := Lib.hid hids
      have Hok := Lib.hid hok
      have HTh := Lib.hid hth
      clear hcn hz0 hGR hids hok hth HR0 HC
      go_wp2
      clear x0 x1
      go_loopw [5, 9] (fun lv iv wr => ∃ (k : Nat) (p : Int), k ≤ R.length ∧ iv = .int .i64 k ∧ lv = .int .i64 p ∧ crels N p k (R.drop k) = crels N (-1) 0 R ∧ St Zf [BlkA (w.heap.size + 1) 68 cs, BlkA w.heap.size 27 #[.slice A N.length c, .slice A' R.length c']] w wr) (fun _ iv _ => R.length - (intOf iv).toNat)
      case atStart => exact ⟨0, -1, Nat.zero_le _, rfl, rfl, rfl, hst⟩
      case round =>
        obtain ⟨k, p, hk, rfl, rfl, hcn, hst⟩ := hrel
        clear hbw hsz
        obtain ⟨x0, x1⟩ := gr_cells hst.swap
        have hbw := hst.bel
        have hsz := hbw.size
        by_cases hlt : k < R.length
        · obtain ⟨r, hp⟩ : ∃ p, R[k]? = some p := ⟨_, List.getElem?_eq_getElem hlt⟩
          obtain ⟨b, off, rfl, hbB, A3, c3, hc, hr2, hi1, hi2, hi3, hs1, hs2⟩ := (RelsR.below H2.out (hbw.mono hB)) k _ hp
          obtain ⟨q0, q1, q2, q3, q4⟩ := rel_cells hc
          rw [crels_drop hp] at hcn
          obtain ⟨pid, pt, ps, pd, pp⟩ := r
          simp only at q0 q1 q2 q3 q4 hr2 hi1 hi2 hi3 hs1 hs2 hcn
          have hi0 : (0 : Int) ≤ (k : Int) := by omega
          have hik : (k : Int) < (R.length : Int) := by omega
          have hn := hst.newBlk 47 #[.int .i64 pid, .string pt, .int .i64 ps, .int .i64 pd, .slice A3 pp.length c3]
          obtain ⟨x2, x3⟩ := gr_cells hn.bring2
          obtain ⟨w1, hw1⟩ : ∃ x, x = wr.alloc (.cells #[.int .i64 pid, .string pt, .int .i64 ps, .int .i64 pd, .slice A3 pp.length c3] 47) := ⟨_, rfl⟩
          rw [← hw1] at hn
          have Hw1 := Lib.hid hw1
          obtain ⟨y0, y1, y2, y3, y4⟩ := rl_cells hn
          have hb1 := hn.bel
          have hbB1 : Below B wr w1 := by rw [hw1]; exact (Below.refl _ _).alloc (by omega) _
          have hpr := Lib.hid (fun n => refPropsWrong_any A3 c3 B pp (w1.drewN n) (PropsR.below hr2 (below_drewN hbB1 n)) (Nat.le_trans hB hb1.size) hs2)
          have hg := Lib.hid (refGoodName_any pt w1 (by unfold maxLen; omega))
          have hcell : Hid (∀ j, j < 1024 → w1.cell? ⟨w.heap.size + 1, j, none⟩ = some (.bool (hasId N (j : Int)))) := Lib.hid fun j hj => by
            have hb := hn.swap.blk
            rw [hb.cell j]
            exact HTh.out.2 j hj
          have Hn := Lib.hid hn.drop
          unfold crel at hcn
          simp only at hcn
          clear hc hr2 hp hw1 hbB1 hn hst
          unfold i64ok at hi1 hi2 hi3
          by_cases hr : pid < 0 ∨ 2048 ≤ pid
          · have hz : cid pid p 2048 62 = 62 := by unfold cid; rw [if_pos hr]
            rw [hz, if_neg (show ¬ (62 : Int) = 0 by decide), if_neg (show ¬ (62 : Int) = 0 by decide)] at hcn
            have HG := Lib.hid (HR.out _ _ hk hcn.symm (by decide))
            clear hcn hz hpr hg hcell
            rcases hr with hr | hr
            · have d1 : decide (pid < 0) = true := decide_eq_true hr
              clear hr
              go_wp2_with fail
              rw [← Hw1.out]
              go_ret2
              exact ⟨by rw [HG.out]; rfl, hb1⟩
            · have d1 : decide (pid < 0) = false := decide_eq_false (by omega)
              have d2 : decide (2047 < pid) = true := decide_eq_true (by omega)
              clear hr
              go_wp2_with fail
              rw [← Hw1.out]
              go_ret2
              exact ⟨by rw [HG.out]; rfl, hb1⟩
          · have d1 : decide (pid < 0) = false := decide_eq_false (by omega)
            have d2 : decide (2047 < pid) = false := decide_eq_false (by omega)
            by_cases hle : pid ≤ p
            · have hz : cid pid p 2048 62 = 6 := by unfold cid; rw [if_neg hr, if_pos hle]
              rw [hz, if_neg (show ¬ (6 : Int) = 0 by decide), if_neg (show ¬ (6 : Int) = 0 by decide)] at hcn
              have HG := Lib.hid (HR.out _ _ hk hcn.symm (by decide))
              have d3 : decide (pid ≤ p) = true := decide_eq_true hle
              clear hcn hz hpr hg hcell hr hle
              go_wp2_with fail
              rw [← Hw1.out]
              go_ret2
              exact ⟨by rw [HG.out]; rfl, hb1⟩
            · have hz : cid pid p 2048 62 = 0 := by unfold cid; rw [if_neg hr, if_neg hle]
              rw [hz, if_pos rfl] at hcn
              have d3 : decide (pid ≤ p) = false := decide_eq_false hle
              clear hz hr hle
              by_cases hgn : goodN pt = true
              · rw [hgn] at hg
                rw [hgn, if_neg (show ¬ true = false by decide)] at hcn
                clear hgn
                by_cases a1 : ps < 0
                · have b1 : decide (ps < 0) = true := decide_eq_true a1
                  rw [if_neg (show ¬ (hasId N ps = true ∧ hasId N pd = true) from by rw [hasId_out Hids.out ps (by omega)]; simp)] at hcn
                  clear a1
                  rw [if_neg (show ¬ (65 : Int) = 0 by decide)] at hcn
                  have HG := Lib.hid (HR.out _ _ hk hcn.symm (by decide))
                  clear hcn hpr hcell
                  go_wp2_with fail
                  rw [← Hw1.out]
                  refine hg.out.mono ?_
                  rintro e w' ⟨rfl, n1, rfl⟩
                  go_wp2
                  go_ret2
                  exact ⟨by rw [HG.out]; rfl, below_drewN hb1 _⟩
                · have b1 : decide (ps < 0) = false := decide_eq_false a1
                  by_cases a2 : pd < 0
                  · have b2 : decide (pd < 0) = true := decide_eq_true a2
                    rw [if_neg (show ¬ (hasId N ps = true ∧ hasId N pd = true) from by rw [hasId_out Hids.out pd (by omega)]; simp)] at hcn
                    clear a1 a2
                    rw [if_neg (show ¬ (65 : Int) = 0 by decide)] at hcn
                    have HG := Lib.hid (HR.out _ _ hk hcn.symm (by decide))
                    clear hcn hpr hcell
                    go_wp2_with fail
                    rw [← Hw1.out]
                    refine hg.out.mono ?_
                    rintro e w' ⟨rfl, n1, rfl⟩
                    go_wp2
                    go_ret2
                    exact ⟨by rw [HG.out]; rfl, below_drewN hb1 _⟩
                  · have b2 : decide (pd < 0) = false := decide_eq_false a2
                    by_cases a3 : 1023 < ps
                    · have b3 : decide (1023 < ps) = true := decide_eq_true a3
                      rw [if_neg (show ¬ (hasId N ps = true ∧ hasId N pd = true) from by rw [hasId_out Hids.out ps (by omega)]; simp)] at hcn
                      clear a1 a2 a3
                      rw [if_neg (show ¬ (65 : Int) = 0 by decide)] at hcn
                      have HG := Lib.hid (HR.out _ _ hk hcn.symm (by decide))
                      clear hcn hpr hcell
                      go_wp2_with fail
                      rw [← Hw1.out]
                      refine hg.out.mono ?_
                      rintro e w' ⟨rfl, n1, rfl⟩
                      go_wp2
                      go_ret2
                      exact ⟨by rw [HG.out]; rfl, below_drewN hb1 _⟩
                    · have b3 : decide (1023 < ps) = false := decide_eq_false a3
                      by_cases a4 : 1023 < pd
                      · have b4 : decide (1023 < pd) = true := decide_eq_true a4
                        rw [if_neg (show ¬ (hasId N ps = true ∧ hasId N pd = true) from by rw [hasId_out Hids.out pd (by omega)]; simp)] at hcn
                        clear a1 a2 a3 a4
                        rw [if_neg (show ¬ (65 : Int) = 0 by decide)] at hcn
                        have HG := Lib.hid (HR.out _ _ hk hcn.symm (by decide))
                        clear hcn hpr hcell
                        go_wp2_with fail
                        rw [← Hw1.out]
                        refine hg.out.mono ?_
                        rintro e w' ⟨rfl, n1, rfl⟩
                        go_wp2
                        go_ret2
                        exact ⟨by rw [HG.out]; rfl, below_drewN hb1 _⟩
                      · have b4 : decide (1023 < pd) = false := decide_eq_false a4
                        have z0 : 0 ≤ ps := by omega
                        have z1 : ps < 1024 := by omega
                        have z2 : 0 ≤ pd := by omega
                        have z3 : pd < 1024 := by omega
                        have u0 := hcell.out ps.toNat (by omega)
                        rw [Int.toNat_of_nonneg z0] at u0
                        have u1 := hcell.out pd.toNat (by omega)
                        rw [Int.toNat_of_nonneg z2] at u1
                        clear a1 a2 a3 a4
                        rcases hS : hasId N ps with _ | _
                        · rw [hS] at u0 hcn
                          rw [if_neg (show ¬ (false = true ∧ hasId N pd = true) from by simp)] at hcn
                          clear u1
                          rw [if_neg (show ¬ (65 : Int) = 0 by decide)] at hcn
                          have HG := Lib.hid (HR.out _ _ hk hcn.symm (by decide))
                          clear hcn hpr hcell
                          go_wp2_with fail
                          rw [← Hw1.out]
                          refine hg.out.mono ?_
                          rintro e w' ⟨rfl, n1, rfl⟩
                          go_wp2
                          go_ret2
                          exact ⟨by rw [HG.out]; rfl, below_drewN hb1 _⟩
                        · rw [hS] at u0 hcn
                          rcases hD : hasId N pd with _ | _
                          · rw [hD] at u1 hcn
                            rw [if_neg (show ¬ (true = true ∧ false = true) from by simp)] at hcn
                            rw [if_neg (show ¬ (65 : Int) = 0 by decide)] at hcn
                            have HG := Lib.hid (HR.out _ _ hk hcn.symm (by decide))
                            clear hcn hpr hcell
                            go_wp2_with fail
                            rw [← Hw1.out]
                            refine hg.out.mono ?_
                            rintro e w' ⟨rfl, n1, rfl⟩
                            go_wp2
                            go_ret2
                            exact ⟨by rw [HG.out]; rfl, below_drewN hb1 _⟩
                          · rw [hD] at u1 hcn
                            rw [if_pos (show true = true ∧ true = true from ⟨rfl, rfl⟩)] at hcn
                            obtain ⟨e, he⟩ : ∃ e, e = cpropsAll pp := ⟨_, rfl⟩
                            rw [← he] at hcn hpr
                            have hpr := hpr
                            clear he
                            by_cases h0 : e = 0
                            · subst h0
                              rw [if_pos rfl] at hcn
                              have Hcn := Lib.hid hcn
                              clear hcn
                              go_wp2_with fail
                              rw [← Hw1.out]
                              refine hg.out.mono ?_
                              rintro e w' ⟨rfl, n1, rfl⟩
                              go_wp2_with fail
                              refine (hpr.out _).mono ?_
                              rintro e9 w9 ⟨rfl, hb9⟩
                              have hst9 := (Hn.out.drewN _).below hb9
                              go_wp2
                              go_roundw
                              case rel => exact ⟨k + 1, pid, by omega, by go_num, rfl, Hcn.out, hst9⟩
                              case measure => simp [intOf]; omega
                            · rw [if_neg h0] at hcn
                              have HG := Lib.hid (HR.out _ _ hk hcn.symm h0)
                              have hne : (e != 0) = true := by simpa using h0
                              clear hcn h0
                              go_wp2_with fail
                              rw [← Hw1.out]
                              refine hg.out.mono ?_
                              rintro e w' ⟨rfl, n1, rfl⟩
                              go_wp2_with fail
                              refine (hpr.out _).mono ?_
                              rintro e9 w9 ⟨rfl, hb9⟩
                              go_wp2
                              go_ret2
                              exact ⟨by rw [HG.out]; rfl, (below_drewN hb1 _).trans (hb9.mono hb1.size)⟩
              · have hgf : goodN pt = false := by simpa using hgn
                rw [hgf] at hg
                rw [hgf, if_pos rfl, if_neg (show ¬ (60 : Int) = 0 by decide)] at hcn
                have HG := Lib.hid (HR.out _ _ hk hcn.symm (by decide))
                clear hcn hgn hgf hcell hpr
                go_wp2_with fail
                rw [← Hw1.out]
                refine hg.out.mono ?_
                rintro e w' ⟨rfl, n1, rfl⟩
                go_wp2
                go_ret2
                exact ⟨by rw [HG.out]; rfl, below_drewN hb1 _⟩
        · obtain rfl : k = R.length := by omega
          rw [List.drop_of_length_le (Nat.le_refl _)] at hcn
          have hz1 : (crels N (-1) 0 R).1 = 0 := by rw [← hcn]; rfl
          have hGW : G = (cwhole ⟨N, R⟩, 0) := by rw [HG0.out, if_pos hz1]
          obtain ⟨hn3, hw3⟩ := HWG.out hz1
          try simp only at hn3 hw3
          have HN1 := Lib.hid (hn3 1 (Or.inl rfl))
          have HN2 := Lib.hid (hn3 2 (Or.inr (Or.inl rfl)))
          have HN3 := Lib.hid (hn3 3 (Or.inr (Or.inr rfl)))
          obtain ⟨C1, hC1⟩ : ∃ n, n = nameCount (gnames ⟨N, R⟩ 1) := ⟨_, rfl⟩
          obtain ⟨C2, hC2⟩ : ∃ n, n = nameCount (gnames ⟨N, R⟩ 2) := ⟨_, rfl⟩
          obtain ⟨C3, hC3⟩ : ∃ n, n = nameCount (gnames ⟨N, R⟩ 3) := ⟨_, rfl⟩
          obtain ⟨W, hW⟩ : ∃ n, n = weightP (gprops ⟨N, R⟩) := ⟨_, rfl⟩
          rw [← hC1] at HN1
          rw [← hC2] at HN2
          rw [← hC3] at HN3
          rw [← hW] at hw3
          unfold cwhole at hGW
          rw [← hC1, ← hC2, ← hC3, ← hW] at hGW
          have HW3 := Lib.hid hw3
          clear hn3 hw3 hC1 hC2 hC3 hW hcn hz1 HG0 HWG HR Hids Hok HTh H1 H2
          have hst0 := hst
          clear hst hbw hsz
          by_cases c1 : 200 < C1
          · rw [if_pos (Or.inl c1)] at hGW
            have f1 : decide ((200 : Int) < (C1 : Int)) = true := decide_eq_true (by omega)
            have HG := Lib.hid hGW
            clear hGW HW3 c1
            go_wp2_with fail
            refine (HN1.out _ hst0.bel).mono ?_
            rintro e1 w2 ⟨D1, d1, rfl, hb2⟩
            have hst1 := hst0.below hb2
            clear x0 x1 hst0 hb2
            obtain ⟨x0, x1⟩ := gr_cells hst1.swap
            go_wp2
            go_ret2
            exact ⟨by rw [HG.out]; rfl, hst1.bel⟩
          · by_cases c2 : 200 < C2
            · rw [if_pos (Or.inr (Or.inl c2))] at hGW
              have f1 : decide ((200 : Int) < (C1 : Int)) = false := decide_eq_false (by omega)
              have f2 : decide ((200 : Int) < (C2 : Int)) = true := decide_eq_true (by omega)
              have HG := Lib.hid hGW
              clear hGW HW3 c1 c2
              go_wp2_with fail
              refine (HN1.out _ hst0.bel).mono ?_
              rintro e1 w2 ⟨D1, d1, rfl, hb2⟩
              have hst1 := hst0.below hb2
              clear x0 x1 hst0 hb2
              obtain ⟨x0, x1⟩ := gr_cells hst1.swap
              go_wp2_with fail
              refine (HN2.out _ hst1.bel).mono ?_
              rintro e2 w3 ⟨D2, d2, rfl, hb3⟩
              have hst2 := hst1.below hb3
              clear x0 x1 hst1 hb3
              obtain ⟨x0, x1⟩ := gr_cells hst2.swap
              go_wp2
              go_ret2
              exact ⟨by rw [HG.out]; rfl, hst2.bel⟩
            · by_cases c3 : 200 < C3
              · rw [if_pos (Or.inr (Or.inr c3))] at hGW
                have f1 : decide ((200 : Int) < (C1 : Int)) = false := decide_eq_false (by omega)
                have f2 : decide ((200 : Int) < (C2 : Int)) = false := decide_eq_false (by omega)
                have f3 : decide ((200 : Int) < (C3 : Int)) = true := decide_eq_true (by omega)
                have HG := Lib.hid hGW
                clear hGW HW3 c1 c2 c3
                go_wp2_with fail
                refine (HN1.out _ hst0.bel).mono ?_
                rintro e1 w2 ⟨D1, d1, rfl, hb2⟩
                have hst1 := hst0.below hb2
                clear x0 x1 hst0 hb2
                obtain ⟨x0, x1⟩ := gr_cells hst1.swap
                go_wp2_with fail
                refine (HN2.out _ hst1.bel).mono ?_
                rintro e2 w3 ⟨D2, d2, rfl, hb3⟩
                have hst2 := hst1.below hb3
                clear x0 x1 hst1 hb3
                obtain ⟨x0, x1⟩ := gr_cells hst2.swap
                go_wp2_with fail
                refine (HN3.out _ hst2.bel).mono ?_
                rintro e3 w4 ⟨D3, d3, rfl, hb4⟩
                have hst3 := hst2.below hb4
                clear x0 x1 hst2 hb4
                obtain ⟨x0, x1⟩ := gr_cells hst3.swap
                go_wp2
                go_ret2
                exact ⟨by rw [HG.out]; rfl, hst3.bel⟩
              · have hno : ¬ (200 < C1 ∨ 200 < C2 ∨ 200 < C3) := by omega
                rw [if_neg hno] at hGW
                have f1 : decide ((200 : Int) < (C1 : Int)) = false := decide_eq_false (by omega)
                have f2 : decide ((200 : Int) < (C2 : Int)) = false := decide_eq_false (by omega)
                have f3 : decide ((200 : Int) < (C3 : Int)) = false := decide_eq_false (by omega)
                clear hno c1 c2 c3
                by_cases c4 : 262144 < W
                · rw [if_pos c4] at hGW
                  have f4 : decide ((262144 : Int) < W) = true := decide_eq_true c4
                  have HG := Lib.hid hGW
                  clear hGW c4
                  go_wp2_with fail
                  refine (HN1.out _ hst0.bel).mono ?_
                  rintro e1 w2 ⟨D1, d1, rfl, hb2⟩
                  have hst1 := hst0.below hb2
                  clear x0 x1 hst0 hb2
                  obtain ⟨x0, x1⟩ := gr_cells hst1.swap
                  go_wp2_with fail
                  refine (HN2.out _ hst1.bel).mono ?_
                  rintro e2 w3 ⟨D2, d2, rfl, hb3⟩
                  have hst2 := hst1.below hb3
                  clear x0 x1 hst1 hb3
                  obtain ⟨x0, x1⟩ := gr_cells hst2.swap
                  go_wp2_with fail
                  refine (HN3.out _ hst2.bel).mono ?_
                  rintro e3 w4 ⟨D3, d3, rfl, hb4⟩
                  have hst3 := hst2.below hb4
                  clear x0 x1 hst2 hb4
                  obtain ⟨x0, x1⟩ := gr_cells hst3.swap
                  go_wp2_with fail
                  refine (HW3.out _ hst3.bel).mono ?_
                  rintro e4 w5 ⟨rfl, hb5⟩
                  have hst4 := hst3.below hb5
                  go_wp2
                  go_ret2
                  exact ⟨by rw [HG.out]; rfl, hst4.bel⟩
                · rw [if_neg c4] at hGW
                  have f4 : decide ((262144 : Int) < W) = false := decide_eq_false c4
                  have HG := Lib.hid hGW
                  clear hGW c4
                  go_wp2_with fail
                  refine (HN1.out _ hst0.bel).mono ?_
                  rintro e1 w2 ⟨D1, d1, rfl, hb2⟩
                  have hst1 := hst0.below hb2
                  clear x0 x1 hst0 hb2
                  obtain ⟨x0, x1⟩ := gr_cells hst1.swap
                  go_wp2_with fail
                  refine (HN2.out _ hst1.bel).mono ?_
                  rintro e2 w3 ⟨D2, d2, rfl, hb3⟩
                  have hst2 := hst1.below hb3
                  clear x0 x1 hst1 hb3
                  obtain ⟨x0, x1⟩ := gr_cells hst2.swap
                  go_wp2_with fail
                  refine (HN3.out _ hst2.bel).mono ?_
                  rintro e3 w4 ⟨D3, d3, rfl, hb4⟩
                  have hst3 := hst2.below hb4
                  clear x0 x1 hst2 hb4
                  obtain ⟨x0, x1⟩ := gr_cells hst3.swap
                  go_wp2_with fail
                  refine (HW3.out _ hst3.bel).mono ?_
                  rintro e4 w5 ⟨rfl, hb5⟩
                  have hst4 := hst3.below hb5
                  go_wp2
                  go_ret2
                  exact ⟨by rw [HG.out]; rfl, hst4.bel⟩
end Go.Proofs.YthnaipgdjbaebaaGreat
