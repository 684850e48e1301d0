/- links: Walk. -/
import Derived.Test.YtpdaiiakdlngjaaLk5
namespace Go.Proofs.Ytpdaiiakdlngjaa
open Go.RowKit
set_option linter.unusedVariables false

def NewW (R : List Int × Int) (w : World) (e : Ending) (w' : World) : Prop := ∃ v, e = .returned (.tuple #[v, .int .i64 R.2]) ∧ OL ivl w' w.heap.size 3 v R.1 ∧ Below w.heap.size w w'
def lenV : Value → Nat
  | .slice _ n _ => n
  | _ => 0
theorem lst_snoc (W : List Int) (x : Int) : lst (W ++ [x]) = x := by
  unfold lst
  rw [List.getLastD_eq_getLast?]
  simp
/-- a walk that goes on -/
theorem wErr_ok {L : List LkC} {node : Int} {W : List Int} {id : Int} (h : wErr L node W id = 0) : ∃ m : Nat, id = m ∧ m < L.length ∧ tb (nthD L m) node = true ∧ prv node (nthD L m) = lst W ∧ lop (nthD L m) = false := by
  unfold wErr at h
  split at h
  · rename_i h1
    obtain ⟨m, rfl, hm, _, ht⟩ := tch_ok h1
    split at h
    · rename_i h2
      split at h
      · cases h
      · rename_i h3
        exact ⟨m, rfl, hm, ht, h2, by simpa using h3⟩
    · cases h
  · rename_i h1
    exact absurd h h1
set_option maxRecDepth 100000 in
set_option maxHeartbeats 1000000 in
theorem Walk_any (A : Option Addr) (cap B : Nat) (L : List LkC) (node head : Int) (w : World) (h : RR lkc 7 w B A L) (hB : B ≤ w.heap.size) (hl : L.length * 56 ≤ 140737488355328) :
    Calls Try.prog 18 #[.slice A L.length cap, .int .i64 node, .int .i64 head] w (NewW (walkP L node head) w) := by
  obtain ⟨j0, hj, hy0, hy1, hy2⟩ := info_parts nint_info
  have hll : L.length * 8 + 8 ≤ 140737488355328 := by omega
  have h0 := (St.start Zf w).nilOl ivl 3
  have hw0 : walkP L node head = wk L node (L.length + 1 - ([] : List Int).length) [] head := rfl
  have HW0 := Lib.hid hw0
  clear hw0
  go_enter Try.func18, Try.ntmps18
  go_wp2
  go_loopw [8, 9, 10] (fun v p i wr => ∃ (W : List Int) (id : Int), i = .int .i64 id ∧ p = .int .i64 (lst W) ∧ Gd L node W ∧ walkP L node head = wk L node (L.length + 1 - W.length) W id ∧ St Zf [OlA ivl 3 v W] w wr) (fun v _ _ _ => L.length + 1 - lenV v)
  case atStart => exact ⟨[], head, rfl, rfl, Gd.nil _ _, HW0.out, h0⟩
  case round =>
    obtain ⟨W, id, rfl, rfl, hgd, hwk, hst⟩ := hrel
    have hst2 := hst
    obtain ⟨Av, cv, rfl, -, -, -, -⟩ := hst2.ol.form
    clear hst2
    by_cases hid : id = -1
    · subst hid
      rw [wk_end hgd] at hwk
      have HWK := Lib.hid hwk
      have HST := Lib.hid hst
      clear hwk hst h0 hgd
      go_wp2
      go_ret2
      exact ⟨_, by rw [HWK.out]; rfl, by rw [HWK.out]; exact HST.out.ownI, HST.out.bel⟩
    · have e0 : (id != -1) = true := by simp [hid]
      have HC := Lib.hid (checkId_any A cap B L node id wr (hst.rr h hB) (by omega))
      have hgl := hgd.len
      have hsz := hgl
      have hwe : wErr L node W id = if tch L node id = 0 then if prv node (nthD L id.toNat) = lst W then if lop (nthD L id.toNat) = true then 101 else 0 else 101 else tch L node id := rfl
      obtain ⟨t, ht⟩ : ∃ t, t = tch L node id := ⟨_, rfl⟩
      rw [← ht] at HC hwe
      by_cases ht0 : t = 0
      · subst ht0
        obtain ⟨m, rfl, hml, hlv, htb⟩ := tch_ok ht.symm
        rw [if_pos rfl, Int.toNat_natCast] at hwe
        have hbad := fun (h : wErr L node W (m : Int) ≠ 0) => hwk.trans (wk_bad hgd hid h)
        have hgood := fun (h : wErr L node W (m : Int) = 0) => hwk.trans (wk_step hgd hid h)
        have hsnoc := fun (h : wErr L node W (m : Int) = 0) => hgd.snoc h
        rw [Int.toNat_natCast] at hgood
        have HBAD := Lib.hid hbad
        have HGOOD := Lib.hid hgood
        have HSNOC := Lib.hid hsnoc
        have HST := Lib.hid hst
        have HG := Lib.hid hgd
        have HWE := Lib.hid hwe
        clear hbad hgood hsnoc hst hwk hgd hwe h0 ht
        go_upto_region 8 with (go_at_call 28; refine (HC.out).mono ?_; rintro e w1 ⟨rfl, hb1⟩; have h1 := HST.out.below hb1; clear hb1)
        obtain ⟨b, off, hA, hb, hcs⟩ := (h1.rr h hB).all lkc_f (by omega)
        have hc := hcs m _ (nthD_get hml)
        obtain ⟨x, hx⟩ : ∃ x, x = nthD L m := ⟨_, rfl⟩
        rw [← hx] at hc htb HWE HGOOD
        obtain ⟨z, hz⟩ : ∃ z, z = lka x := ⟨_, rfl⟩
        have hz7 : (Try.prog.info? 46).map (·.size) = some z.size := by rw [hz]; exact lk_size
        have hzl : (Try.prog.info? 46).map (·.size) = some z.toList.length := by rw [hz]; exact lk_size
        have hz1 : z.all (·.oneCell') = true := by rw [hz, ← Array.all_toList]; rfl
        have hzs : lkz.size = z.size := by rw [hz]; rfl
        have HC8 : Hid (w1.rangeAt b (off + m * 7) z.toList) := Lib.hid (by rw [hz]; exact hc)
        have ha := h1.newBlk 46 z
        have hnew := World.setRow_alloc_new w1 lkz z 46
        have HI := Lib.hid (isLoop_any x)
        have HZ := Lib.hid hz
        have HX := Lib.hid hx
        subst hA
        clear hcs hc hz hx HC HST h1
        go_upto_region 9 with (first
          | (refine wpList_load_mid rfl 46 _ rfl b (off + m * 7) rfl z.toList _ HC8.out Try.underlying46 rfl hzl ?_)
          | (refine wpList_store_row rfl 46 _ _ rfl w1.heap.size z rfl rfl 46 lkz (heap_alloc_new w1 _) hz7 hzs hz1 ?_; rw [hnew]))
        obtain ⟨H, hH⟩ : ∃ H, H = w1.heap.size := ⟨_, rfl⟩
        obtain ⟨w2, hw2⟩ : ∃ q, q = w1.alloc (.cells z 46) := ⟨_, rfl⟩
        rw [← hw2] at ha ⊢
        rw [← hH] at ha ⊢
        clear hnew HC8 hw2 hH
        have hfr : w2.cell? ⟨H, 0 + 1, none⟩ = some (.int .i64 x.fr) := by rw [ha.blk.cell, HZ.out]; rfl
        have hsd := side_any H 0 x.fr node w2 hfr
        obtain ⟨p1, hp1⟩ : ∃ p, p = if x.fr = node then 0 + 3 else 0 + 4 := ⟨_, rfl⟩
        obtain ⟨p2, hp2⟩ : ∃ p, p = if x.fr = node then 0 + 5 else 0 + 6 := ⟨_, rfl⟩
        rw [← hp1, ← hp2] at hsd
        have hq1 : z[p1]? = some (.int .i64 (prv node x)) := by rw [HZ.out, hp1]; unfold prv; split <;> rfl
        have hq2 : z[p2]? = some (.int .i64 (nxt node x)) := by rw [HZ.out, hp2]; unfold nxt; split <;> rfl
        have HSD := Lib.hid hsd
        have HA := Lib.hid ha
        have HQ1 := Lib.hid hq1
        have HQ2 := Lib.hid hq2
        clear hfr hsd hp1 hp2 hq1 hq2 ha
        go_upto_region 10 with (go_at_call 25; refine (HSD.out).mono ?_; rintro e w3 ⟨rfl, n3, hw3⟩; have h3 := HA.out.drewN n3; rw [← hw3] at h3; clear hw3)
        have HI3 := Lib.hid (HI.out w3)
        have c1 : w3.cell? ⟨H, p1, none⟩ = some (.int .i64 (prv node x)) := (h3.blk.cell p1).trans HQ1.out
        have r3 := h3.blk
        have H3 := Lib.hid h3
        obtain ⟨pv, hpv⟩ : ∃ pv, pv = prv node x := ⟨_, rfl⟩
        obtain ⟨lw, hlw⟩ : ∃ lw, lw = lst W := ⟨_, rfl⟩
        rw [← hpv] at c1 HWE
        rw [← hlw] at HWE ⊢
        clear h3 HSD HA
        by_cases hpl : pv = lw
        · have e1 : (pv != lw) = false := by simp [hpl]
          have HQ4 : Hid (z[4]? = some (.int .i64 x.tp)) := Lib.hid (by rw [HZ.out]; rfl)
          have HQ6 : Hid (z[6]? = some (.int .i64 x.tn)) := Lib.hid (by rw [HZ.out]; rfl)
          have hby : (W.length + 1) * 8 ≤ 140737488355328 := by omega
          have hwe := HWE.out
          rw [if_pos hpl] at hwe
          have hlo : lop x = (decide (x.fr = x.to) && (!decide (x.tp = -1) || !decide (x.tn = -1))) := rfl
          obtain ⟨lp, hlp⟩ : ∃ lp, lp = decide (x.fr = x.to) := ⟨_, rfl⟩
          rw [← hlp] at HI3 hlo
          obtain ⟨tp, htp⟩ : ∃ tp, tp = x.tp := ⟨_, rfl⟩
          obtain ⟨tn, htn⟩ : ∃ tn, tn = x.tn := ⟨_, rfl⟩
          rw [← htp] at HQ4 hlo
          rw [← htn] at HQ6 hlo
          have HWX := Lib.hid hwe
          have HLO := Lib.hid hlo
          clear hpl hwe hlo hlp htp htn hpv hlw HWE
          have k0 : w3.cell? ⟨H, 0, none⟩ = some (.bool x.lv) := by rw [r3.cell, HZ.out]; rfl
          have k1 : w3.cell? ⟨H, 1, none⟩ = some (.int .i64 x.fr) := by rw [r3.cell, HZ.out]; rfl
          have k2 : w3.cell? ⟨H, 2, none⟩ = some (.int .i64 x.to) := by rw [r3.cell, HZ.out]; rfl
          have k3 : w3.cell? ⟨H, 3, none⟩ = some (.int .i64 x.fp) := by rw [r3.cell, HZ.out]; rfl
          have k4 : w3.cell? ⟨H, 4, none⟩ = some (.int .i64 x.tp) := by rw [r3.cell, HZ.out]; rfl
          have k5 : w3.cell? ⟨H, 5, none⟩ = some (.int .i64 x.fn) := by rw [r3.cell, HZ.out]; rfl
          have k6 : w3.cell? ⟨H, 6, none⟩ = some (.int .i64 x.tn) := by rw [r3.cell, HZ.out]; rfl
          cases lp
          · have hz0 : wErr L node W (m : Int) = 0 := by rw [HWX.out, HLO.out]; rfl
            have HN := Lib.hid (HGOOD.out hz0)
            have HS := Lib.hid (HSNOC.out hz0)
            clear hz0
            go_upto_region 13 with (first
              | (go_at_call 27; refine (HI3.out).mono ?_; rintro e w4 ⟨rfl, hb4⟩; have H4 := Lib.hid (H3.out.below hb4); have c4 := (H4.out.blk.cell 4).trans HQ4.out; have c6 := (H4.out.blk.cell 6).trans HQ6.out; clear hb4)
              | (at_builtin; refine wpList_append_elem _ rfl _ _ 26 rfl 0 3 j0 _ 8 Try.underlying26 hj hy0 hy1 hy2 rfl _ W (by rfl) H4.out.swap.ol (m : Int) (ivl_ok _) (by rfl) hby (by omega) (Nat.zero_le _) ?_; intro v7 w7 hown7 hg7 hat7; have h7 := H4.out.swap.grewOl hown7 hg7 hat7 (Nat.le_succ _); have c2 := (h7.swap.blk.cell p2).trans HQ2.out; have H7 := Lib.hid h7; obtain ⟨A7, c7, rfl, -, -, -, -⟩ := hown7.form; clear hown7 hg7 hat7 h7 c4 c6))
            have h77 := H7.out
            rw [List.length_append, List.length_singleton] at h77
            have HQ := Lib.hid h77
            clear h77
            clear r3 c1 k0 k1 k2 k3 k4 k5 k6
            go_quiet (fail)
            go_wp2
            go_roundw
            case rel => exact ⟨W ++ [(m : Int)], nxt node x, rfl, by rw [lst_snoc], HS.out, HN.out, HQ.out.dropSnd.drewN nq⟩
            case measure => simp [lenV]; omega
          · by_cases h4 : tp = -1
            · have e2 : (tp != -1) = false := by simp [h4]
              by_cases h6 : tn = -1
              · have e3 : (tn != -1) = false := by simp [h6]
                have hz0 : wErr L node W (m : Int) = 0 := by rw [HWX.out, HLO.out, decide_eq_true h4, decide_eq_true h6]; rfl
                have HN := Lib.hid (HGOOD.out hz0)
                have HS := Lib.hid (HSNOC.out hz0)
                clear hz0
                go_upto_region 13 with (first
                  | (go_at_call 27; refine (HI3.out).mono ?_; rintro e w4 ⟨rfl, hb4⟩; have H4 := Lib.hid (H3.out.below hb4); have c4 := (H4.out.blk.cell 4).trans HQ4.out; have c6 := (H4.out.blk.cell 6).trans HQ6.out; clear hb4)
                  | (at_builtin; refine wpList_append_elem _ rfl _ _ 26 rfl 0 3 j0 _ 8 Try.underlying26 hj hy0 hy1 hy2 rfl _ W (by rfl) H4.out.swap.ol (m : Int) (ivl_ok _) (by rfl) hby (by omega) (Nat.zero_le _) ?_; intro v7 w7 hown7 hg7 hat7; have h7 := H4.out.swap.grewOl hown7 hg7 hat7 (Nat.le_succ _); have c2 := (h7.swap.blk.cell p2).trans HQ2.out; have H7 := Lib.hid h7; obtain ⟨A7, c7, rfl, -, -, -, -⟩ := hown7.form; clear hown7 hg7 hat7 h7 c4 c6))
                have h77 := H7.out
                rw [List.length_append, List.length_singleton] at h77
                have HQ := Lib.hid h77
                clear h77
                clear r3 c1 k0 k1 k2 k3 k4 k5 k6
                go_quiet (fail)
                go_wp2
                go_roundw
                case rel => exact ⟨W ++ [(m : Int)], nxt node x, rfl, by rw [lst_snoc], HS.out, HN.out, HQ.out.dropSnd.drewN nq⟩
                case measure => simp [lenV]; omega
              · have e3 : (tn != -1) = true := by simp [h6]
                have hw9 : wErr L node W (m : Int) = 101 := by rw [HWX.out, HLO.out, decide_eq_true h4, decide_eq_false h6]; rfl
                have hb := HBAD.out (by rw [hw9]; decide)
                rw [hw9] at hb
                have HB := Lib.hid hb
                clear hw9 hb
                go_wp2_with (first
                  | (go_at_call 27; refine (HI3.out).mono ?_; rintro e w4 ⟨rfl, hb4⟩; have H4 := Lib.hid (H3.out.below hb4); have c4 := (H4.out.blk.cell 4).trans HQ4.out; have c6 := (H4.out.blk.cell 6).trans HQ6.out; clear hb4))
                go_ret2
                exact ⟨_, by rw [HB.out]; rfl, by rw [HB.out]; exact OL.nil _ _ _ _, H4.out.bel⟩
            · have e2 : (tp != -1) = true := by simp [h4]
              have hw9 : wErr L node W (m : Int) = 101 := by rw [HWX.out, HLO.out, decide_eq_false h4]; rfl
              have hb := HBAD.out (by rw [hw9]; decide)
              rw [hw9] at hb
              have HB := Lib.hid hb
              clear hw9 hb
              go_wp2_with (first
                | (go_at_call 27; refine (HI3.out).mono ?_; rintro e w4 ⟨rfl, hb4⟩; have H4 := Lib.hid (H3.out.below hb4); have c4 := (H4.out.blk.cell 4).trans HQ4.out; have c6 := (H4.out.blk.cell 6).trans HQ6.out; clear hb4))
              go_ret2
              exact ⟨_, by rw [HB.out]; rfl, by rw [HB.out]; exact OL.nil _ _ _ _, H4.out.bel⟩
        · have e1 : (pv != lw) = true := by simp [hpl]
          have hwe := HWE.out
          rw [if_neg hpl] at hwe
          have hb := HBAD.out (by rw [hwe]; decide)
          rw [hwe] at hb
          have HB := Lib.hid hb
          clear hpl hwe hb hpv hlw
          go_wp2
          go_ret2
          exact ⟨_, by rw [HB.out]; rfl, by rw [HB.out]; exact OL.nil _ _ _ _, H3.out.bel⟩
      · have hb := hwk.trans (wk_bad hgd hid (by rw [hwe, if_neg ht0]; exact ht0))
        rw [hwe, if_neg ht0] at hb
        have HB := Lib.hid hb
        have HST := Lib.hid hst
        have e1 : (t != 0) = true := by simp [ht0]
        clear hb hst hwk hgd hwe h0 ht ht0
        go_wp2_with (go_at_call 28; refine (HC.out).mono ?_; rintro e w1 ⟨rfl, hb1⟩; have h1 := Lib.hid (HST.out.below hb1); clear hb1)
        go_ret2
        exact ⟨_, by rw [HB.out]; rfl, by rw [HB.out]; exact OL.nil _ _ _ _, h1.out.bel⟩
end Go.Proofs.Ytpdaiiakdlngjaa
