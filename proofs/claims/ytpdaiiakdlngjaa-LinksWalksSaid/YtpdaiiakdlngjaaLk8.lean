/- links: the document's Walk. -/
import Derived.Test.YtpdaiiakdlngjaaLk7
namespace Go.Proofs.Ytpdaiiakdlngjaa
open Go.RowKit
set_option linter.unusedVariables false

theorem OL.lit0 {α : Type} (f : α → Value) (w : World) (base : Nat) (e : TypeId) (hb : base ≤ w.heap.size) : OL f (w.alloc (.cells #[] e)) base e (.slice (some ⟨w.heap.size, 0, none⟩) 0 0) [] :=
  ⟨fun x hx => (by cases hx), World.ownsRow_lit w #[] 0 hb (Nat.zero_le _) rfl⟩
theorem lst_nth {W : List Int} {q : Nat} (h : W.length = q + 1) : lst W = nthI W q := by
  have h2 : W[q]? = some (nthI W q) := by rw [nthI_lt (by omega)]; exact List.getElem?_eq_getElem _
  have := lst_take h2
  rwa [List.take_of_length_le (by omega)] at this
set_option maxRecDepth 100000 in
set_option maxHeartbeats 4000000 in
theorem refWalk_any (A : Option Addr) (cap B : Nat) (L : List LkC) (node head : Int) (w : World) (h : RR lkc 7 w B A L) (hB : B ≤ w.heap.size) (hl : L.length * 56 ≤ 140737488355328) :
    Calls Try.prog 19 #[.slice A L.length cap, .int .i64 node, .int .i64 head] w (NewW (walkP L node head) w) := by
  obtain ⟨j0, hj, hy0, hy1, hy2⟩ := info_parts nint_info
  have hll : L.length * 8 + 8 ≤ 140737488355328 := by omega
  have h0 := (St.start Zf w).newNil ivl 3 rfl
  have hw0 : walkP L node head = wk L node (L.length + 1 - ([] : List Int).length) [] head := rfl
  have HW0 := Lib.hid hw0
  clear hw0
  go_enter Try.func19, Try.ntmps19
  go_wp2
  go_loopw [8, 9] (fun v i wr => ∃ (W : List Int) (id : Int), i = .int .i64 id ∧ Gd L node W ∧ walkP L node head = wk L node (L.length + 1 - W.length) W id ∧ St Zf [OlA ivl 3 v W] w wr) (fun v _ _ => L.length + 1 - lenV v)
  case atStart => exact ⟨[], head, rfl, Gd.nil _ _, HW0.out, h0⟩
  case round =>
    obtain ⟨W, id, rfl, hgd, hwk, hst⟩ := hrel
    have hst2 := hst
    obtain ⟨Av, cv, rfl, -, -, -, -⟩ := hst2.ol.form
    clear hst2
    by_cases hid : id = -1
    · subst hid
      rw [wk_end hgd] at hwk
      have HWK := Lib.hid hwk
      have HST := Lib.hid hst
      clear hwk hst h0 hgd
      go_wp2
      go_ret2
      exact ⟨_, by rw [HWK.out]; rfl, by rw [HWK.out]; exact HST.out.ownI, HST.out.bel⟩
    · have e0 : (id != -1) = true := by simp [hid]
      have HC := Lib.hid (refTouches_any A cap B L node id wr (hst.rr h hB) (by omega))
      have hgl := hgd.len
      have hwe : wErr L node W id = if tch L node id = 0 then if prv node (nthD L id.toNat) = lst W then if lop (nthD L id.toNat) = true then 101 else 0 else 101 else tch L node id := rfl
      obtain ⟨t, ht⟩ : ∃ t, t = tch L node id := ⟨_, rfl⟩
      rw [← ht] at HC hwe
      by_cases ht0 : t = 0
      · subst ht0
        obtain ⟨m, rfl, hml, hlv, htb⟩ := tch_ok ht.symm
        rw [if_pos rfl, Int.toNat_natCast] at hwe
        have hbad := fun (h : wErr L node W (m : Int) ≠ 0) => hwk.trans (wk_bad hgd hid h)
        have hgood := fun (h : wErr L node W (m : Int) = 0) => hwk.trans (wk_step hgd hid h)
        have hsnoc := fun (h : wErr L node W (m : Int) = 0) => hgd.snoc h
        rw [Int.toNat_natCast] at hgood
        have HBAD := Lib.hid hbad
        have HGOOD := Lib.hid hgood
        have HSNOC := Lib.hid hsnoc
        have HWE := Lib.hid hwe
        obtain ⟨b, off, hA, hb, hcs⟩ := (hst.rr h hB).all lkc_f (by omega)
        have hc := hcs m _ (nthD_get hml)
        obtain ⟨x, hx⟩ : ∃ x, x = nthD L m := ⟨_, rfl⟩
        rw [← hx] at hc htb HWE HGOOD
        obtain ⟨z, hz⟩ : ∃ z, z = lka x := ⟨_, rfl⟩
        have hz7 : (Try.prog.info? 46).map (·.size) = some z.size := by rw [hz]; exact lk_size
        have hzl : (Try.prog.info? 46).map (·.size) = some z.toList.length := by rw [hz]; exact lk_size
        have hz1 : z.all (·.oneCell') = true := by rw [hz, ← Array.all_toList]; rfl
        have hzs : lkz.size = z.size := by rw [hz]; rfl
        have HC8 : Hid (wr.rangeAt b (off + m * 7) z.toList) := Lib.hid (by rw [hz]; exact hc)
        have ha := hst.newBlk 46 z
        have hnew := World.setRow_alloc_new wr lkz z 46
        have HZ := Lib.hid hz
        subst hA
        clear hcs hc hz hx hbad hgood hsnoc hst hwk hgd hwe h0 ht
        go_upto_region 8 with (first
          | (go_at_call 22; refine (HC.out).mono ?_; rintro e w1 ⟨rfl, rfl⟩)
          | (refine wpList_load_mid rfl 46 _ rfl b (off + m * 7) rfl z.toList _ HC8.out Try.underlying46 rfl hzl ?_)
          | (refine wpList_store_row rfl 46 _ _ rfl wr.heap.size z rfl rfl 46 lkz (heap_alloc_new wr _) hz7 hzs hz1 ?_; rw [hnew]))
        obtain ⟨H, hH⟩ : ∃ H, H = wr.heap.size := ⟨_, rfl⟩
        obtain ⟨w2, hw2⟩ : ∃ q, q = wr.alloc (.cells z 46) := ⟨_, rfl⟩
        rw [← hw2] at ha ⊢
        rw [← hH] at ha ⊢
        clear hnew HC8 hw2 hH HC
        have hblk := ha.blk
        rw [HZ.out] at hblk
        have k1 : w2.cell? ⟨H, 1, none⟩ = some (.int .i64 x.fr) := by rw [hblk.cell]; rfl
        have k2 : w2.cell? ⟨H, 2, none⟩ = some (.int .i64 x.to) := by rw [hblk.cell]; rfl
        have k3 : w2.cell? ⟨H, 3, none⟩ = some (.int .i64 x.fp) := by rw [hblk.cell]; rfl
        have k4 : w2.cell? ⟨H, 4, none⟩ = some (.int .i64 x.tp) := by rw [hblk.cell]; rfl
        have k5 : w2.cell? ⟨H, 5, none⟩ = some (.int .i64 x.fn) := by rw [hblk.cell]; rfl
        have k6 : w2.cell? ⟨H, 6, none⟩ = some (.int .i64 x.tn) := by rw [hblk.cell]; rfl
        have hlo : lop x = (decide (x.fr = x.to) && (!decide (x.tp = -1) || !decide (x.tn = -1))) := rfl
        have hpr : prv node x = if x.fr = node then x.fp else x.tp := rfl
        have hnx : nxt node x = if x.fr = node then x.fn else x.tn := rfl
        have htb' : (decide (x.fr = node) || decide (x.to = node)) = true := htb
        obtain ⟨fr, hfr⟩ : ∃ q, q = x.fr := ⟨_, rfl⟩
        obtain ⟨to, hto⟩ : ∃ q, q = x.to := ⟨_, rfl⟩
        obtain ⟨fp, hfp⟩ : ∃ q, q = x.fp := ⟨_, rfl⟩
        obtain ⟨tp, htp⟩ : ∃ q, q = x.tp := ⟨_, rfl⟩
        obtain ⟨fn, hfn⟩ : ∃ q, q = x.fn := ⟨_, rfl⟩
        obtain ⟨tn, htn⟩ : ∃ q, q = x.tn := ⟨_, rfl⟩
        rw [← hfr] at k1 hlo hpr hnx htb'
        rw [← hto] at k2 hlo htb'
        rw [← hfp] at k3 hpr
        rw [← htp] at k4 hlo hpr
        rw [← hfn] at k5 hnx
        rw [← htn] at k6 hlo hnx
        obtain ⟨n, hn⟩ : ∃ n, n = W.length := ⟨_, rfl⟩
        have HA := Lib.hid ha
        have hrl := ha.swap.ol.reads.2.1
        rw [← hn] at HA ⊢
        have hby : (W.length + 1) * 8 ≤ 140737488355328 := by omega
        have hnb : n ≤ 140737488355328 := by omega
        have hby : (W.length + 1) * 8 ≤ 140737488355328 := hby
        have HLO := Lib.hid hlo
        have HPR := Lib.hid hpr
        have HNX := Lib.hid hnx
        have HBY := Lib.hid hby
        have HN := Lib.hid hn
        have HTB := Lib.hid htb'
        have HGL := Lib.hid hgl
        clear hblk hlo hpr hnx htb' hfr hto hfp htp hfn htn ha hby hn htb hgl HZ
        by_cases hfr : fr = node
        · have e7 : (fr == node) = true := by simp [hfr]
          have HFR := Lib.hid hfr
          clear hfr
          go_quiet (fail)
          obtain ⟨q1, hq1⟩ : ∃ q, q = nq := ⟨_, rfl⟩
          rw [← hq1]
          clear hq1
          go_wp2
          go_quiet (fail)
          obtain ⟨w3, hw3⟩ : ∃ q, q = (w2.drewN q1).drewN nq := ⟨_, rfl⟩
          have h3 := (HA.out.drewN q1).drewN nq
          rw [← hw3] at h3 ⊢
          have k1 : w3.cell? ⟨H, 1, none⟩ = some (.int .i64 fr) := by rw [hw3]; exact k1
          have k2 : w3.cell? ⟨H, 2, none⟩ = some (.int .i64 to) := by rw [hw3]; exact k2
          have k3 : w3.cell? ⟨H, 3, none⟩ = some (.int .i64 fp) := by rw [hw3]; exact k3
          have k4 : w3.cell? ⟨H, 4, none⟩ = some (.int .i64 tp) := by rw [hw3]; exact k4
          have k5 : w3.cell? ⟨H, 5, none⟩ = some (.int .i64 fn) := by rw [hw3]; exact k5
          have k6 : w3.cell? ⟨H, 6, none⟩ = some (.int .i64 tn) := by rw [hw3]; exact k6
          have H3 := Lib.hid h3
          have hrl3 := h3.swap.ol.reads.2.1
          rw [HN.out] at h3
          clear hw3 h3 hrl
          by_cases hn0 : n = 0
          · have e9 : decide (0 < n) = false := decide_eq_false (by omega)
            have e10 : decide ((0 : Int) < (n : Int)) = false := decide_eq_false (by omega)
            obtain ⟨lw, hlw⟩ : ∃ q, q = lst W := ⟨_, rfl⟩
            have hl1 : lw = -1 := by rw [hlw, List.length_eq_zero_iff.1 (HN.out.symm.trans hn0)]; rfl
            subst hl1
            have HLW := Lib.hid hlw
            clear hlw hn0 hrl3
            by_cases hpl : fp = (-1)
            · have e1 : (fp != (-1)) = false := by simp [hpl]
              have HPL := Lib.hid hpl
              clear hpl
              by_cases hto : to = node
              · have e2 : (to == node) = true := by simp [hto]
                have HTO := Lib.hid hto
                have e5 : decide (fr = to) = true := decide_eq_true (HFR.out.trans hto.symm)
                have E5 := Lib.hid e5
                clear hto e5
                by_cases h4 : tp = -1
                · have e3 : (tp != -1) = false := by simp [h4]
                  by_cases h6 : tn = -1
                  · have e4 : (tn != -1) = false := by simp [h6]
                    have hz0 : wErr L node W (m : Int) = 0 := by rw [HWE.out, HPR.out, if_pos HFR.out, if_pos (HPL.out.trans HLW.out), HLO.out, E5.out, decide_eq_true h4, decide_eq_true h6]; rfl
                    have HNX2 := Lib.hid (HGOOD.out hz0)
                    have HS := Lib.hid (HSNOC.out hz0)
                    clear hz0
                    go_wp2_with (at_builtin; refine wpList_append_elem _ rfl _ _ 26 rfl 0 3 j0 _ 8 Try.underlying26 hj hy0 hy1 hy2 rfl _ W (by rfl) H3.out.swap.ol (m : Int) (ivl_ok _) (by rfl) HBY.out (by omega) (Nat.zero_le _) ?_; intro v7 w7 hown7 hg7 hat7; have h7 := H3.out.swap.grewOl hown7 hg7 hat7 (Nat.le_succ _); obtain ⟨A7, c7, rfl, -, -, -, -⟩ := hown7.form; rw [List.length_append, List.length_singleton, ← HN.out] at h7; have HQ := Lib.hid h7; clear hown7 hg7 hat7 h7)
                    go_roundw
                    case rel => exact ⟨W ++ [(m : Int)], _, rfl, HS.out, by rw [HNX2.out, HNX.out, if_pos HFR.out], by have q := HQ.out.dropSnd; rw [HN.out] at q; exact q⟩
                    case measure => have := HN.out; have := HGL.out; simp [lenV]; omega
                  · have e4 : (tn != -1) = true := by simp [h6]
                    have hw9 : wErr L node W (m : Int) = 101 := by rw [HWE.out, HPR.out, if_pos HFR.out, if_pos (HPL.out.trans HLW.out), HLO.out, E5.out, decide_eq_true h4, decide_eq_false h6]; rfl
                    have hb := HBAD.out (by rw [hw9]; decide)
                    rw [hw9] at hb
                    have HB9 := Lib.hid hb
                    clear hw9 hb
                    go_wp2
                    go_ret2
                    exact ⟨_, by rw [HB9.out]; rfl, by rw [HB9.out]; exact OL.lit0 _ _ _ _ H3.out.size, H3.out.bel.alloc H3.out.size _⟩
                · have e3 : (tp != -1) = true := by simp [h4]
                  have hw9 : wErr L node W (m : Int) = 101 := by rw [HWE.out, HPR.out, if_pos HFR.out, if_pos (HPL.out.trans HLW.out), HLO.out, E5.out, decide_eq_false h4]; rfl
                  have hb := HBAD.out (by rw [hw9]; decide)
                  rw [hw9] at hb
                  have HB9 := Lib.hid hb
                  clear hw9 hb
                  go_wp2
                  go_ret2
                  exact ⟨_, by rw [HB9.out]; rfl, by rw [HB9.out]; exact OL.lit0 _ _ _ _ H3.out.size, H3.out.bel.alloc H3.out.size _⟩
              · have e2 : (to == node) = false := beq_eq_false_iff_ne.2 hto
                have e6 : decide (to = node) = false := decide_eq_false hto
                have E5 : Hid (decide (fr = to) = false) := Lib.hid (decide_eq_false (fun e => hto (e ▸ HFR.out)))
                clear hto
                have hz0 : wErr L node W (m : Int) = 0 := by rw [HWE.out, HPR.out, if_pos HFR.out, if_pos (HPL.out.trans HLW.out), HLO.out, E5.out]; rfl
                have HNX2 := Lib.hid (HGOOD.out hz0)
                have HS := Lib.hid (HSNOC.out hz0)
                clear hz0
                go_wp2_with (at_builtin; refine wpList_append_elem _ rfl _ _ 26 rfl 0 3 j0 _ 8 Try.underlying26 hj hy0 hy1 hy2 rfl _ W (by rfl) H3.out.swap.ol (m : Int) (ivl_ok _) (by rfl) HBY.out (by omega) (Nat.zero_le _) ?_; intro v7 w7 hown7 hg7 hat7; have h7 := H3.out.swap.grewOl hown7 hg7 hat7 (Nat.le_succ _); obtain ⟨A7, c7, rfl, -, -, -, -⟩ := hown7.form; rw [List.length_append, List.length_singleton, ← HN.out] at h7; have HQ := Lib.hid h7; clear hown7 hg7 hat7 h7)
                go_roundw
                case rel => exact ⟨W ++ [(m : Int)], _, rfl, HS.out, by rw [HNX2.out, HNX.out, if_pos HFR.out], by have q := HQ.out.dropSnd; rw [HN.out] at q; exact q⟩
                case measure => have := HN.out; have := HGL.out; simp [lenV]; omega
            · have e1 : (fp != (-1)) = true := by simp [hpl]
              have HPL := Lib.hid hpl
              clear hpl
              have hw9 : wErr L node W (m : Int) = 101 := by rw [HWE.out, HPR.out, if_pos HFR.out, if_neg (fun e => HPL.out (e.trans HLW.out.symm))]
              have hb := HBAD.out (by rw [hw9]; decide)
              rw [hw9] at hb
              have HB9 := Lib.hid hb
              clear hw9 hb
              go_wp2
              go_ret2
              exact ⟨_, by rw [HB9.out]; rfl, by rw [HB9.out]; exact OL.lit0 _ _ _ _ H3.out.size, H3.out.bel.alloc H3.out.size _⟩
          · have e9 : decide (0 < n) = true := decide_eq_true (by omega)
            have e10 : decide ((0 : Int) < (n : Int)) = true := decide_eq_true (by omega)
            obtain ⟨q, hq⟩ : ∃ q, n = q + 1 := ⟨n - 1, by omega⟩
            have hlw := lst_nth (W := W) (q := q) (by rw [← HN.out]; exact hq)
            obtain ⟨b2, off2, hA2, -, hcell⟩ := hrl3.allI (by rw [← HN.out]; omega)
            have hcl := hcell q (by rw [← HN.out]; omega)
            subst hA2
            obtain ⟨lw, hl0⟩ : ∃ l, l = nthI W q := ⟨_, rfl⟩
            rw [← hl0] at hlw hcl
            have HLW := Lib.hid hlw.symm
            have hq2 : (n : Int) - 1 = (q : Int) := by omega
            have hq3 : q < n := by omega
            clear hlw hl0 hcell hrl3 hq hn0
            by_cases hpl : fp = lw
            · have e1 : (fp != lw) = false := by simp [hpl]
              have HPL := Lib.hid hpl
              clear hpl
              by_cases hto : to = node
              · have e2 : (to == node) = true := by simp [hto]
                have HTO := Lib.hid hto
                have e5 : decide (fr = to) = true := decide_eq_true (HFR.out.trans hto.symm)
                have E5 := Lib.hid e5
                clear hto e5
                by_cases h4 : tp = -1
                · have e3 : (tp != -1) = false := by simp [h4]
                  by_cases h6 : tn = -1
                  · have e4 : (tn != -1) = false := by simp [h6]
                    have hz0 : wErr L node W (m : Int) = 0 := by rw [HWE.out, HPR.out, if_pos HFR.out, if_pos (HPL.out.trans HLW.out), HLO.out, E5.out, decide_eq_true h4, decide_eq_true h6]; rfl
                    have HNX2 := Lib.hid (HGOOD.out hz0)
                    have HS := Lib.hid (HSNOC.out hz0)
                    clear hz0
                    go_wp2_with (at_builtin; refine wpList_append_elem _ rfl _ _ 26 rfl 0 3 j0 _ 8 Try.underlying26 hj hy0 hy1 hy2 rfl _ W (by rfl) H3.out.swap.ol (m : Int) (ivl_ok _) (by rfl) HBY.out (by omega) (Nat.zero_le _) ?_; intro v7 w7 hown7 hg7 hat7; have h7 := H3.out.swap.grewOl hown7 hg7 hat7 (Nat.le_succ _); obtain ⟨A7, c7, rfl, -, -, -, -⟩ := hown7.form; rw [List.length_append, List.length_singleton, ← HN.out] at h7; have HQ := Lib.hid h7; clear hown7 hg7 hat7 h7)
                    go_roundw
                    case rel => exact ⟨W ++ [(m : Int)], _, rfl, HS.out, by rw [HNX2.out, HNX.out, if_pos HFR.out], by have q := HQ.out.dropSnd; rw [HN.out] at q; exact q⟩
                    case measure => have := HN.out; have := HGL.out; simp [lenV]; omega
                  · have e4 : (tn != -1) = true := by simp [h6]
                    have hw9 : wErr L node W (m : Int) = 101 := by rw [HWE.out, HPR.out, if_pos HFR.out, if_pos (HPL.out.trans HLW.out), HLO.out, E5.out, decide_eq_true h4, decide_eq_false h6]; rfl
                    have hb := HBAD.out (by rw [hw9]; decide)
                    rw [hw9] at hb
                    have HB9 := Lib.hid hb
                    clear hw9 hb
                    go_wp2
                    go_ret2
                    exact ⟨_, by rw [HB9.out]; rfl, by rw [HB9.out]; exact OL.lit0 _ _ _ _ H3.out.size, H3.out.bel.alloc H3.out.size _⟩
                · have e3 : (tp != -1) = true := by simp [h4]
                  have hw9 : wErr L node W (m : Int) = 101 := by rw [HWE.out, HPR.out, if_pos HFR.out, if_pos (HPL.out.trans HLW.out), HLO.out, E5.out, decide_eq_false h4]; rfl
                  have hb := HBAD.out (by rw [hw9]; decide)
                  rw [hw9] at hb
                  have HB9 := Lib.hid hb
                  clear hw9 hb
                  go_wp2
                  go_ret2
                  exact ⟨_, by rw [HB9.out]; rfl, by rw [HB9.out]; exact OL.lit0 _ _ _ _ H3.out.size, H3.out.bel.alloc H3.out.size _⟩
              · have e2 : (to == node) = false := beq_eq_false_iff_ne.2 hto
                have e6 : decide (to = node) = false := decide_eq_false hto
                have E5 : Hid (decide (fr = to) = false) := Lib.hid (decide_eq_false (fun e => hto (e ▸ HFR.out)))
                clear hto
                have hz0 : wErr L node W (m : Int) = 0 := by rw [HWE.out, HPR.out, if_pos HFR.out, if_pos (HPL.out.trans HLW.out), HLO.out, E5.out]; rfl
                have HNX2 := Lib.hid (HGOOD.out hz0)
                have HS := Lib.hid (HSNOC.out hz0)
                clear hz0
                go_wp2_with (at_builtin; refine wpList_append_elem _ rfl _ _ 26 rfl 0 3 j0 _ 8 Try.underlying26 hj hy0 hy1 hy2 rfl _ W (by rfl) H3.out.swap.ol (m : Int) (ivl_ok _) (by rfl) HBY.out (by omega) (Nat.zero_le _) ?_; intro v7 w7 hown7 hg7 hat7; have h7 := H3.out.swap.grewOl hown7 hg7 hat7 (Nat.le_succ _); obtain ⟨A7, c7, rfl, -, -, -, -⟩ := hown7.form; rw [List.length_append, List.length_singleton, ← HN.out] at h7; have HQ := Lib.hid h7; clear hown7 hg7 hat7 h7)
                go_roundw
                case rel => exact ⟨W ++ [(m : Int)], _, rfl, HS.out, by rw [HNX2.out, HNX.out, if_pos HFR.out], by have q := HQ.out.dropSnd; rw [HN.out] at q; exact q⟩
                case measure => have := HN.out; have := HGL.out; simp [lenV]; omega
            · have e1 : (fp != lw) = true := by simp [hpl]
              have HPL := Lib.hid hpl
              clear hpl
              have hw9 : wErr L node W (m : Int) = 101 := by rw [HWE.out, HPR.out, if_pos HFR.out, if_neg (fun e => HPL.out (e.trans HLW.out.symm))]
              have hb := HBAD.out (by rw [hw9]; decide)
              rw [hw9] at hb
              have HB9 := Lib.hid hb
              clear hw9 hb
              go_wp2
              go_ret2
              exact ⟨_, by rw [HB9.out]; rfl, by rw [HB9.out]; exact OL.lit0 _ _ _ _ H3.out.size, H3.out.bel.alloc H3.out.size _⟩
        · have e7 : (fr == node) = false := by exact beq_eq_false_iff_ne.2 hfr
          have e8 : decide (fr = node) = false := decide_eq_false hfr
          have HFR := Lib.hid hfr
          clear hfr
          go_quiet (fail)
          obtain ⟨q1, hq1⟩ : ∃ q, q = nq := ⟨_, rfl⟩
          rw [← hq1]
          clear hq1
          obtain ⟨w3, hw3⟩ : ∃ q, q = w2.drewN q1 := ⟨_, rfl⟩
          have h3 := HA.out.drewN q1
          rw [← hw3] at h3 ⊢
          have k1 : w3.cell? ⟨H, 1, none⟩ = some (.int .i64 fr) := by rw [hw3]; exact k1
          have k2 : w3.cell? ⟨H, 2, none⟩ = some (.int .i64 to) := by rw [hw3]; exact k2
          have k3 : w3.cell? ⟨H, 3, none⟩ = some (.int .i64 fp) := by rw [hw3]; exact k3
          have k4 : w3.cell? ⟨H, 4, none⟩ = some (.int .i64 tp) := by rw [hw3]; exact k4
          have k5 : w3.cell? ⟨H, 5, none⟩ = some (.int .i64 fn) := by rw [hw3]; exact k5
          have k6 : w3.cell? ⟨H, 6, none⟩ = some (.int .i64 tn) := by rw [hw3]; exact k6
          have H3 := Lib.hid h3
          have hrl3 := h3.swap.ol.reads.2.1
          rw [HN.out] at h3
          clear hw3 h3 hrl
          by_cases hn0 : n = 0
          · have e9 : decide (0 < n) = false := decide_eq_false (by omega)
            have e10 : decide ((0 : Int) < (n : Int)) = false := decide_eq_false (by omega)
            obtain ⟨lw, hlw⟩ : ∃ q, q = lst W := ⟨_, rfl⟩
            have hl1 : lw = -1 := by rw [hlw, List.length_eq_zero_iff.1 (HN.out.symm.trans hn0)]; rfl
            subst hl1
            have HLW := Lib.hid hlw
            clear hlw hn0 hrl3
            by_cases hpl : tp = (-1)
            · have e1 : (tp != (-1)) = false := by simp [hpl]
              have HPL := Lib.hid hpl
              clear hpl
              have E5 : Hid (decide (fr = to) = false) := Lib.hid (decide_eq_false (fun e => by have h1 := HTB.out; have h2 := HFR.out; rw [decide_eq_false h2, Bool.false_or, decide_eq_true_eq] at h1; exact h2 (e.trans h1)))
              have hz0 : wErr L node W (m : Int) = 0 := by rw [HWE.out, HPR.out, if_neg HFR.out, if_pos (HPL.out.trans HLW.out), HLO.out, E5.out]; rfl
              have HNX2 := Lib.hid (HGOOD.out hz0)
              have HS := Lib.hid (HSNOC.out hz0)
              clear hz0
              go_wp2_with (at_builtin; refine wpList_append_elem _ rfl _ _ 26 rfl 0 3 j0 _ 8 Try.underlying26 hj hy0 hy1 hy2 rfl _ W (by rfl) H3.out.swap.ol (m : Int) (ivl_ok _) (by rfl) HBY.out (by omega) (Nat.zero_le _) ?_; intro v7 w7 hown7 hg7 hat7; have h7 := H3.out.swap.grewOl hown7 hg7 hat7 (Nat.le_succ _); obtain ⟨A7, c7, rfl, -, -, -, -⟩ := hown7.form; rw [List.length_append, List.length_singleton, ← HN.out] at h7; have HQ := Lib.hid h7; clear hown7 hg7 hat7 h7)
              go_roundw
              case rel => exact ⟨W ++ [(m : Int)], _, rfl, HS.out, by rw [HNX2.out, HNX.out, if_neg HFR.out], by have q := HQ.out.dropSnd; rw [HN.out] at q; exact q⟩
              case measure => have := HN.out; have := HGL.out; simp [lenV]; omega
            · have e1 : (tp != (-1)) = true := by simp [hpl]
              have HPL := Lib.hid hpl
              clear hpl
              have hw9 : wErr L node W (m : Int) = 101 := by rw [HWE.out, HPR.out, if_neg HFR.out, if_neg (fun e => HPL.out (e.trans HLW.out.symm))]
              have hb := HBAD.out (by rw [hw9]; decide)
              rw [hw9] at hb
              have HB9 := Lib.hid hb
              clear hw9 hb
              go_wp2
              go_ret2
              exact ⟨_, by rw [HB9.out]; rfl, by rw [HB9.out]; exact OL.lit0 _ _ _ _ H3.out.size, H3.out.bel.alloc H3.out.size _⟩
          · have e9 : decide (0 < n) = true := decide_eq_true (by omega)
            have e10 : decide ((0 : Int) < (n : Int)) = true := decide_eq_true (by omega)
            obtain ⟨q, hq⟩ : ∃ q, n = q + 1 := ⟨n - 1, by omega⟩
            have hlw := lst_nth (W := W) (q := q) (by rw [← HN.out]; exact hq)
            obtain ⟨b2, off2, hA2, -, hcell⟩ := hrl3.allI (by rw [← HN.out]; omega)
            have hcl := hcell q (by rw [← HN.out]; omega)
            subst hA2
            obtain ⟨lw, hl0⟩ : ∃ l, l = nthI W q := ⟨_, rfl⟩
            rw [← hl0] at hlw hcl
            have HLW := Lib.hid hlw.symm
            have hq2 : (n : Int) - 1 = (q : Int) := by omega
            have hq3 : q < n := by omega
            clear hlw hl0 hcell hrl3 hq hn0
            by_cases hpl : tp = lw
            · have e1 : (tp != lw) = false := by simp [hpl]
              have HPL := Lib.hid hpl
              clear hpl
              have E5 : Hid (decide (fr = to) = false) := Lib.hid (decide_eq_false (fun e => by have h1 := HTB.out; have h2 := HFR.out; rw [decide_eq_false h2, Bool.false_or, decide_eq_true_eq] at h1; exact h2 (e.trans h1)))
              have hz0 : wErr L node W (m : Int) = 0 := by rw [HWE.out, HPR.out, if_neg HFR.out, if_pos (HPL.out.trans HLW.out), HLO.out, E5.out]; rfl
              have HNX2 := Lib.hid (HGOOD.out hz0)
              have HS := Lib.hid (HSNOC.out hz0)
              clear hz0
              go_wp2_with (at_builtin; refine wpList_append_elem _ rfl _ _ 26 rfl 0 3 j0 _ 8 Try.underlying26 hj hy0 hy1 hy2 rfl _ W (by rfl) H3.out.swap.ol (m : Int) (ivl_ok _) (by rfl) HBY.out (by omega) (Nat.zero_le _) ?_; intro v7 w7 hown7 hg7 hat7; have h7 := H3.out.swap.grewOl hown7 hg7 hat7 (Nat.le_succ _); obtain ⟨A7, c7, rfl, -, -, -, -⟩ := hown7.form; rw [List.length_append, List.length_singleton, ← HN.out] at h7; have HQ := Lib.hid h7; clear hown7 hg7 hat7 h7)
              go_roundw
              case rel => exact ⟨W ++ [(m : Int)], _, rfl, HS.out, by rw [HNX2.out, HNX.out, if_neg HFR.out], by have q := HQ.out.dropSnd; rw [HN.out] at q; exact q⟩
              case measure => have := HN.out; have := HGL.out; simp [lenV]; omega
            · have e1 : (tp != lw) = true := by simp [hpl]
              have HPL := Lib.hid hpl
              clear hpl
              have hw9 : wErr L node W (m : Int) = 101 := by rw [HWE.out, HPR.out, if_neg HFR.out, if_neg (fun e => HPL.out (e.trans HLW.out.symm))]
              have hb := HBAD.out (by rw [hw9]; decide)
              rw [hw9] at hb
              have HB9 := Lib.hid hb
              clear hw9 hb
              go_wp2
              go_ret2
              exact ⟨_, by rw [HB9.out]; rfl, by rw [HB9.out]; exact OL.lit0 _ _ _ _ H3.out.size, H3.out.bel.alloc H3.out.size _⟩
      · have hb := hwk.trans (wk_bad hgd hid (by rw [hwe, if_neg ht0]; exact ht0))
        rw [hwe, if_neg ht0] at hb
        have HB := Lib.hid hb
        have HST := Lib.hid hst
        have e1 : (t != 0) = true := by simp [ht0]
        clear hb hst hwk hgd hwe h0 ht ht0
        go_wp2_with (go_at_call 22; refine (HC.out).mono ?_; rintro e w1 ⟨rfl, rfl⟩)
        go_ret2
        exact ⟨_, by rw [HB.out]; rfl, by rw [HB.out]; exact OL.lit0 _ _ _ _ HST.out.size, HST.out.bel.alloc HST.out.size _⟩
end Go.Proofs.Ytpdaiiakdlngjaa
