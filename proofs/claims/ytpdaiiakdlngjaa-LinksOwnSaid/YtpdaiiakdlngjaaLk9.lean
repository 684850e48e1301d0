/- links: the document's Thread. -/
import Derived.Test.YtpdaiiakdlngjaaLk6
import Derived.Test.YtpdaiiakdlngjaaLkSt
import Derived.StillTailTactics
import Derived.Deep.Cut
import Derived.Deep.CutRange
namespace Go.Proofs.Ytpdaiiakdlngjaa
open Go.RowKit
set_option linter.unusedVariables false

theorem cell_ltB {w : World} {a : Addr} {v : Value} (h : w.cell? a = some v) : a.block < w.heap.size := World.block_lt_of_cell? w _ h
theorem nb_info : (Try.prog.info? 4).map (fun i => (i.zero, i.size, i.bytes)) = some (some (.bool false), 1, 1) := by kernel_rfl
abbrev bvl : Bool → Value := fun b => Value.bool b
theorem bvl_ok (b : Bool) : bvl b ≠ undef ∧ (bvl b).oneCell' = true := ⟨by simp [bvl, undef], rfl⟩
/-- which ids were met -/
def metB (O : List Int) : Nat → List Bool → List Bool
  | 0, M => M
  | k + 1, M => (metB O k M).set (nthI O k).toNat true
theorem metB_len (O : List Int) (k : Nat) (M : List Bool) : (metB O k M).length = M.length := by
  induction k with
  | zero => rfl
  | succ k ih => unfold metB; rw [List.length_set, ih]
theorem metB_at (O : List Int) (n : Nat) (m : Nat) (hm : m < n) : ∀ k, k ≤ O.length → (∀ j, j < k → (0 : Int) ≤ nthI O j) → (metB O k (List.replicate n false))[m]? = some (decide ((m : Int) ∈ O.take k))
  | 0, _, _ => by simp [metB, hm]
  | k + 1, hk, hO => by
    have ih := metB_at O n m hm k (by omega) (fun j hj => hO j (by omega))
    unfold metB
    have hlt : k < O.length := by omega
    have hx := hO k (by omega)
    rw [List.getElem?_set, takeI_succ hlt, metB_len, List.length_replicate]
    by_cases h : (nthI O k).toNat = m
    · rw [if_pos h, h, if_pos hm]
      have : (m : Int) = nthI O k := by omega
      simp [this]
    · rw [if_neg h, ih]
      have : (m : Int) ≠ nthI O k := by omega
      simp [this]
set_option maxRecDepth 100000 in
set_option maxHeartbeats 2000000 in
theorem refThread_any (A : Option Addr) (cap B : Nat) (L : List LkC) (node : Int) (A' : Option Addr) (cap' B' : Nat) (O : List Int) (w : World) (h : RR lkc 7 w B A L) (hB : B ≤ w.heap.size) (hl : L.length * 56 ≤ 140737488355328)
    (h' : RL ivl w B' A' O) (hB' : B' ≤ w.heap.size) (hl' : O.length ≤ 140737488355328) (hO : ∀ x ∈ O, inI x) :
    Calls Try.prog 17 #[.slice A L.length cap, .int .i64 node, .slice A' O.length cap'] w (NewT L node O w) := by
  obtain ⟨j0, hj, hy0, hy1, hy2⟩ := info_parts nb_info
  obtain ⟨i0, z0, hi, hz, hx1, hx2, hz1⟩ := row_info link_info
  have hll : L.length + 8 ≤ 140737488355328 := by omega
  have h0 := (St.start Zf w).newNil bvl 4 rfl
  go_enter Try.func17, Try.ntmps17
  go_wp2
  go_loopw [8, 9] (fun v i wr => ∃ k : Nat, k ≤ L.length ∧ i = .int .i64 k ∧ St Zf [OlA bvl 4 v (List.replicate k false)] w wr) (fun _ i _ => L.length - (intOf i).toNat)
  case atStart => exact ⟨0, Nat.zero_le _, rfl, h0⟩
  case round =>
    obtain ⟨k, hk, rfl, hst⟩ := hrel
    have hst2 := hst
    obtain ⟨Av, cv, hAv, -, -, -, -⟩ := hst2.ol.form
    rw [List.length_replicate] at hAv
    subst hAv
    clear hst2
    by_cases hlt : k < L.length
    · have HST := Lib.hid hst
      have hby : ((List.replicate k false).length + 1) * 1 ≤ 140737488355328 := by rw [List.length_replicate]; omega
      have HBY := Lib.hid hby
      have HREP : Hid (List.replicate k false ++ [false] = List.replicate (k + 1) false) := Lib.hid (by rw [List.replicate_succ'])
      clear hst h0 hby
      go_wp2_with (at_builtin; refine wpList_append_elem _ rfl _ _ 44 rfl 0 4 j0 _ 1 Try.underlying44 hj hy0 hy1 hy2 rfl _ (List.replicate k false) (by rfl) HST.out.ol false (bvl_ok _) (by rfl) HBY.out (by omega) (Nat.zero_le _) ?_; intro v7 w7 hown7 hg7 hat7; have h7 := Lib.hid (HST.out.grewOl hown7 hg7 hat7 (Nat.le_succ _)); clear hown7 hg7 hat7)
      go_roundw
      case rel => exact ⟨k + 1, by omega, by go_num, by rw [← HREP.out]; exact h7.out⟩
      case measure => simp [intOf]; omega
    · obtain rfl : k = L.length := by omega
      have HST := Lib.hid hst
      clear hst h0
      go_wp2
      go_loopw [10] (fun i wr => ∃ k : Nat, k ≤ O.length ∧ i = .int .i64 k ∧ chk L node O = chkD L node O k ∧ (∀ j, j < k → ∃ m : Nat, nthI O j = m ∧ m < L.length) ∧ St Zf [OlA bvl 4 (.slice Av L.length cv) (metB O k (List.replicate L.length false))] w wr) (fun i _ => O.length - (intOf i).toNat)
      case atStart => exact ⟨0, Nat.zero_le _, rfl, by unfold chk chkD; rw [List.drop_zero], fun j hj => by omega, HST.out⟩
      case round =>
        obtain ⟨k, hk, rfl, hd, hall, hst⟩ := hrel
        by_cases hlt : k < O.length
        · have HT := Lib.hid (refTouches_any A cap B L node (nthI O k) wr (hst.rr h hB) (by omega))
          have hs2 := chkD_step L node O hlt
          rw [← hd] at hs2
          have hce : cErr L node O k = if tch L node (nthI O k) = 0 then if nthI O k ∈ O.take k then 7 else 0 else tch L node (nthI O k) := rfl
          obtain ⟨b, off, hA', hb, hcs⟩ := (hst.rl h' hB').allI (by omega)
          subst hA'
          have hc := hcs k hlt
          obtain ⟨t, ht⟩ : ∃ t, t = tch L node (nthI O k) := ⟨_, rfl⟩
          rw [← ht] at HT hce
          by_cases ht0 : t = 0
          · subst ht0
            obtain ⟨m, hm, hml, -, -⟩ := tch_ok ht.symm
            have hnn : ∀ j, j < k → (0 : Int) ≤ nthI O j := fun j hj => by
              obtain ⟨q, hq, -⟩ := hall j hj
              omega
            have hml2 : (metB O k (List.replicate L.length false)).length = L.length := by rw [metB_len, List.length_replicate]
            have hget := metB_at O L.length m hml k hk hnn
            have hall' : ∀ j, j < k + 1 → ∃ q : Nat, nthI O j = q ∧ q < L.length := fun j hj => by
              rcases Nat.lt_or_ge j k with h1 | h1
              · exact hall j h1
              · obtain rfl : j = k := by omega
                exact ⟨m, hm, hml⟩
            have hsucc : metB O (k + 1) (List.replicate L.length false) = (metB O k (List.replicate L.length false)).set m true := by
              show List.set _ (nthI O k).toNat true = _
              rw [hm, Int.toNat_natCast]
            obtain ⟨M, hM⟩ : ∃ M, M = metB O k (List.replicate L.length false) := ⟨_, rfl⟩
            rw [← hM] at hst hml2 hget hsucc
            obtain ⟨g, hAv, ⟨u0, hu0⟩, hfz, hst'⟩ := hst.storeOlL hml2 hml true (bvl_ok true)
            subst hAv
            obtain ⟨b2, off2, hA2, -, hcell⟩ := hst.ol.reads.2.1.all (by omega)
            simp only [Option.some.injEq, Addr.mk.injEq, and_true] at hA2
            obtain ⟨rfl, rfl⟩ := hA2
            have hmc := hcell m (by omega)
            have hMm : M[m]'(by omega) = decide ((m : Int) ∈ O.take k) := by
              have := List.getElem?_eq_getElem (l := M) (i := m) (by omega)
              rw [this] at hget
              exact Option.some.inj hget
            rw [hMm, Nat.zero_add] at hmc
            rw [hm] at hc HT hce
            obtain ⟨q, hq⟩ : ∃ q, q = decide ((m : Int) ∈ O.take k) := ⟨_, rfl⟩
            rw [← hq] at hmc
            have hqe : ((m : Int) ∈ O.take k) ↔ q = true := by rw [hq]; simp
            rw [if_pos rfl] at hce
            have HB0 := Lib.hid hst.bel
            have HS' := Lib.hid hst'
            have HSU := Lib.hid hsucc
            have HALL := Lib.hid hall'
            cases q
            · have hno : ¬ ((m : Int) ∈ O.take k) := by rw [hqe]; decide
              rw [if_neg hno] at hce
              rw [hce, if_pos rfl] at hs2
              have HD2 := Lib.hid hs2
              clear hno hqe hq hce hs2 hst hst' hsucc hall hall' hget hMm hM hml2 hcell hnn hm ht hd hcs hu0
              go_wp2_with (go_at_call 22; refine (HT.out).mono ?_; rintro e w5 ⟨rfl, rfl⟩)
              go_roundw
              case rel => exact ⟨k + 1, by omega, by go_num, HD2.out, HALL.out, by rw [HSU.out]; exact HS'.out⟩
              case measure => simp [intOf]; omega
            · have hyes : (m : Int) ∈ O.take k := by rw [hqe]
              rw [if_pos hyes] at hce
              rw [hce, if_neg (by decide)] at hs2
              have HCK := Lib.hid hs2
              clear hyes hqe hq hce hs2 hst hst' hsucc hall hall' hget hMm hM hml2 hcell hnn hm ht hd hcs hu0
              go_wp2_with (go_at_call 22; refine (HT.out).mono ?_; rintro e w5 ⟨rfl, rfl⟩)
              go_ret2
              have hth : thrP L node O = [] := by unfold thrP; rw [HCK.out]; rfl
              exact ⟨_, by rw [HCK.out]; rfl, by rw [hth]; exact World.ownsRow_lit _ #[] 0 HB0.out.size (Nat.zero_le _) rfl, HB0.out.alloc HB0.out.size _⟩
          · rw [if_neg ht0] at hce
            rw [hce, if_neg ht0] at hs2
            have e1 : (t != 0) = true := by simp [ht0]
            have HCK := Lib.hid hs2
            have HB0 := Lib.hid hst.bel
            have HT0 := Lib.hid ht0
            clear hce hs2 hst hall ht hd hcs ht0
            go_wp2_with (go_at_call 22; refine (HT.out).mono ?_; rintro e w5 ⟨rfl, rfl⟩)
            go_ret2
            have hth : thrP L node O = [] := by unfold thrP; rw [HCK.out, if_neg HT0.out]
            exact ⟨_, by rw [HCK.out]; rfl, by rw [hth]; exact World.ownsRow_lit _ #[] 0 HB0.out.size (Nat.zero_le _) rfl, HB0.out.alloc HB0.out.size _⟩
        · obtain rfl : k = O.length := by omega
          rw [chkD_end] at hd
          have HCK := Lib.hid hd
          have HALL := Lib.hid hall
          have ha := hst.newNilOw lkc 7 46 rfl
          have hr := (ha.rr h hB)
          have h2' := ha.ow
          have HA := Lib.hid ha
          have HSZ : ([] : List LkC).length + L.length = L.length := by simp
          have hby : (([] : List LkC).length + L.length) * 56 ≤ 140737488355328 := by rw [HSZ]; exact hl
          have HBY := Lib.hid hby
          clear hd hall hst ha HSZ hby
          go_upto_region 17 with (at_builtin; refine wpList_append_rows (f := lkc) (s := 7) _ lkc_f rfl _ _ 22 rfl 0 46 i0 z0 56 Try.underlying22 hi hz hx1 hx2 hz1 _ [] (by rfl) h2' A cap B L L.length rfl (by rfl) hr HBY.out (by omega) (Nat.zero_le _) ?_; intro v1 w1 hown1 hg1 hat1; have h1 := HA.out.grewOw hown1 hg1 hat1 (Nat.le_refl _); rw [List.nil_append] at h1; obtain ⟨A2, c2, rfl, -, -, -⟩ := h1.owForm; have H1 := Lib.hid h1.dropSnd; clear hown1 hg1 hat1 h1 hr h2' HA)
          go_loopw [13] (fun i wr => ∃ k : Nat, k ≤ O.length ∧ i = .int .i64 k ∧ St Zf [OwA lkc 7 46 (.slice A2 L.length c2) (thrK L node O k)] w wr) (fun i _ => O.length - (intOf i).toNat)
          case atStart => exact ⟨0, Nat.zero_le _, rfl, H1.out⟩
          case round =>
            obtain ⟨k, hk, rfl, hst⟩ := hrel
            by_cases hlt : k < O.length
            · obtain ⟨m, hm, hml, hlv, htb, hnot⟩ := chk_at HCK.out hlt
              obtain ⟨b, off, hA', hb, hcs⟩ := (hst.rl h' hB').allI (by omega)
              subst hA'
              have hc := hcs k hlt
              rw [hm] at hc
              have htl := thrK_len L node O k
              have hends := thrK_ends L node O m k
              have hsucc : thrK L node O (k + 1) = (thrK L node O k).set m (layL node (atI O ((k : Int) - 1)) (atI O ((k : Int) + 1)) (nthD (thrK L node O k) m)) := by
                show (thrK L node O k).set (nthI O k).toNat _ = _
                rw [hm, Int.toNat_natCast]
              obtain ⟨T, hT⟩ : ∃ T, T = thrK L node O k := ⟨_, rfl⟩
              rw [← hT] at hst htl hsucc hends
              have htb2 : tb (nthD T m) node = true := by
                unfold tb at htb ⊢
                rw [hends.1, hends.2.1]
                exact htb
              obtain ⟨x, hx⟩ : ∃ x, x = nthD T m := ⟨_, rfl⟩
              rw [← hx] at hsucc htb2
              have hmT : m < T.length := by omega
              obtain ⟨g, hA2, -⟩ := hst.storeRow lkc_f htl hml x
              subst hA2
              have hrow := hst.rowAt lkc_f hmT
              rw [← hx] at hrow
              -- what stands ahead and behind
              have hprev : ∃ pv, atI O ((k : Int) - 1) = pv ∧ ((k = 0 ∧ pv = -1) ∨ ∃ q, k = q + 1 ∧ wr.cell? ⟨b, off + q, none⟩ = some (.int .i64 pv)) := by
                refine ⟨_, rfl, ?_⟩
                rcases Nat.eq_zero_or_pos k with h0 | h0
                · refine .inl ⟨h0, ?_⟩
                  unfold atI
                  rw [if_pos (by omega)]
                · obtain ⟨q, rfl⟩ : ∃ q, k = q + 1 := ⟨k - 1, by omega⟩
                  refine .inr ⟨q, rfl, ?_⟩
                  have e : atI O (((q + 1 : Nat) : Int) - 1) = nthI O q := by
                    unfold atI
                    rw [if_neg (by omega), show (((q + 1 : Nat) : Int) - 1).toNat = q from by omega]
                  rw [e]
                  exact hcs q (by omega)
              have hnext : ∃ nx, atI O ((k : Int) + 1) = nx ∧ ((¬ k + 1 < O.length ∧ nx = -1) ∨ (k + 1 < O.length ∧ wr.cell? ⟨b, off + (k + 1), none⟩ = some (.int .i64 nx))) := by
                refine ⟨_, rfl, ?_⟩
                by_cases h0 : k + 1 < O.length
                · refine .inr ⟨h0, ?_⟩
                  have e : atI O ((k : Int) + 1) = nthI O (k + 1) := by
                    unfold atI
                    rw [if_neg (by omega), show ((k : Int) + 1).toNat = k + 1 from by omega]
                  rw [e]
                  exact hcs (k + 1) h0
                · refine .inl ⟨h0, ?_⟩
                  unfold atI
                  rw [if_pos (by omega)]
              obtain ⟨pv, hpv, hpv2⟩ := hprev
              obtain ⟨nx, hnx, hnx2⟩ := hnext
              rw [hpv, hnx] at hsucc
              obtain ⟨z, hz7⟩ : ∃ z, z = lka x := ⟨_, rfl⟩
              have hzi : (Try.prog.info? 46).map (·.size) = some z.size := by rw [hz7]; exact lk_size
              have hzl : (Try.prog.info? 46).map (·.size) = some z.toList.length := by rw [hz7]; exact lk_size
              have hzo : z.all (·.oneCell') = true := by rw [hz7, ← Array.all_toList]; rfl
              have hzs : lkz.size = z.size := by rw [hz7]; rfl
              have HC8 : Hid (wr.rangeAt g (m * 7) z.toList) := Lib.hid (by rw [hz7]; exact hrow)
              have ha := hst.newBlk 46 z
              have hnew := World.setRow_alloc_new wr lkz z 46
              have hcN : (wr.alloc (.cells z 46)).cell? ⟨b, off + k, none⟩ = some (.int .i64 (m : Int)) := by rw [World.cell?_alloc_lt wr _ _ (cell_ltB hc)]; exact hc
              have HA := Lib.hid ha
              have HSU := Lib.hid hsucc
              have HTB := Lib.hid htb2
              have HZ := Lib.hid hz7
              have HM := Lib.hid hm
              obtain ⟨bp, b1, b2, hp3⟩ : ∃ bp, decide ((0 : Int) < (k : Int)) = bp ∧ decide (0 < k) = bp ∧ ((bp = false ∧ pv = -1) ∨ (bp = true ∧ 0 < k ∧ wr.cell? ⟨b, off + (k - 1), none⟩ = some (.int .i64 pv))) := by
                rcases hpv2 with ⟨hk0, hpe⟩ | ⟨q, hkq, hcq⟩
                · exact ⟨false, decide_eq_false (by omega), decide_eq_false (by omega), .inl ⟨rfl, hpe⟩⟩
                · exact ⟨true, decide_eq_true (by omega), decide_eq_true (by omega), .inr ⟨rfl, by omega, by rw [show k - 1 = q from by omega]; exact hcq⟩⟩
              obtain ⟨bn, b3, b4, hn3⟩ : ∃ bn, decide ((k : Int) + 1 < (O.length : Int)) = bn ∧ decide (k + 1 < O.length) = bn ∧ ((bn = false ∧ nx = -1) ∨ (bn = true ∧ k + 1 < O.length ∧ wr.cell? ⟨b, off + (k + 1), none⟩ = some (.int .i64 nx))) := by
                rcases hnx2 with ⟨hnl, hne⟩ | ⟨hnl, hcn⟩
                · exact ⟨false, decide_eq_false (by omega), decide_eq_false (by omega), .inl ⟨rfl, hne⟩⟩
                · exact ⟨true, decide_eq_true (by omega), decide_eq_true (by omega), .inr ⟨rfl, hnl, hcn⟩⟩
              have HP2 := Lib.hid hp3
              have HN2 := Lib.hid hn3
              have hki : (0 : Int) ≤ (k : Int) := by omega
              clear hm htb hnot hcs hends hsucc hT hst htb2 hx hrow hpv hnx hz7 ha hlv hpv2 hnx2 hp3 hn3
              obtain ⟨fr, hfr⟩ : ∃ f, f = x.fr := ⟨_, rfl⟩
              obtain ⟨tz, htz⟩ : ∃ f, f = x.to := ⟨_, rfl⟩
              go_upto_if 68 with fail
              clear b1 b2
              go_cut [14] from 61 to 115 (fun p w' => p = .int .i64 pv ∧ w' = wr)
              case first =>
                rcases HP2.out with ⟨rfl, rfl⟩ | ⟨rfl, hk0, hcq⟩
                · go_wp2
                  go_meet
                  exact ⟨rfl, rfl⟩
                · have p3 : (k : Int) - 1 = ((k - 1 : Nat) : Int) := by omega
                  have p4 : ((k - 1 : Nat) : Int) < (O.length : Int) := by omega
                  obtain ⟨q, hq⟩ : ∃ q, q = k - 1 := ⟨_, rfl⟩
                  rw [← hq] at p3 p4 hcq
                  clear hq
                  go_wp2
                  go_meet
                  exact ⟨rfl, rfl⟩
              case rest =>
                obtain ⟨rfl, rfl⟩ := hcut
                go_upto_if 78 with fail
                clear b3 b4
                go_cut [15] from 61 to 115 (fun p w' => p = .int .i64 nx ∧ w' = wc)
                case first =>
                  rcases HN2.out with ⟨rfl, rfl⟩ | ⟨rfl, hnl, hcn⟩
                  · go_wp2
                    go_meet
                    exact ⟨rfl, rfl⟩
                  · have n2 : ((k : Int) + 1).toNat = k + 1 := by omega
                    have n3 : (k : Int) + 1 < (O.length : Int) := by omega
                    go_wp2
                    go_meet
                    exact ⟨rfl, rfl⟩
                case rest =>
                  obtain ⟨rfl, rfl⟩ := hcut
                  go_upto_region 24 with fail
                  go_upto_region 25 with (first
                    | (refine wpList_load_mid rfl 46 _ rfl g (m * 7) rfl z.toList _ HC8.out Try.underlying46 rfl hzl ?_)
                    | (refine wpList_store_row rfl 46 _ _ rfl _ z rfl rfl 46 lkz (heap_alloc_new _ _) hzi hzs hzo ?_; rw [hnew]))
                  obtain ⟨H, hH⟩ : ∃ q, q = wc.heap.size := ⟨_, rfl⟩
                  obtain ⟨w2, hw2⟩ : ∃ q, q = wc.alloc (.cells z 46) := ⟨_, rfl⟩
                  rw [← hw2, ← hH] at HA
                  rw [← hw2, ← hH]
                  clear hw2 hH hnew HC8 hcN hc hb hzi hzl hzo hzs HP2 HN2
                  have ha := HA.out
                  rw [HZ.out] at ha
                  clear HA HZ
                  obtain ⟨y, hy⟩ : ∃ y, y = layL node pv nx x := ⟨_, rfl⟩
                  have HY := Lib.hid hy
                  rw [← hy] at HSU
                  clear hy
                  have hbk := ha.blk
                  have x1 : w2.cell? ⟨H, 1, none⟩ = some (.int .i64 x.fr) := by rw [hbk.cell]; rfl
                  have f1 := hbk.frozen 1
                  have x2 : w2.cell? ⟨H, 2, none⟩ = some (.int .i64 x.to) := by rw [hbk.cell]; rfl
                  have f2 := hbk.frozen 2
                  have x3 : w2.cell? ⟨H, 3, none⟩ = some (.int .i64 x.fp) := by rw [hbk.cell]; rfl
                  have f3 := hbk.frozen 3
                  have x4 : w2.cell? ⟨H, 4, none⟩ = some (.int .i64 x.tp) := by rw [hbk.cell]; rfl
                  have f4 := hbk.frozen 4
                  have x5 : w2.cell? ⟨H, 5, none⟩ = some (.int .i64 x.fn) := by rw [hbk.cell]; rfl
                  have f5 := hbk.frozen 5
                  have x6 : w2.cell? ⟨H, 6, none⟩ = some (.int .i64 x.tn) := by rw [hbk.cell]; rfl
                  have f6 := hbk.frozen 6
                  rw [← hfr] at x1
                  rw [← htz] at x2
                  obtain ⟨b1, hb1⟩ : ∃ q, (fr == node) = q := ⟨_, rfl⟩
                  have hb1' : decide (fr = node) = b1 := by rw [← hb1, ibeq]
                  have HAA := Lib.hid ha
                  have HFR := Lib.hid hfr
                  have HTZ := Lib.hid htz
                  clear ha hbk hfr htz
                  go_upto_if 94 with fail
                  have HB1 := Lib.hid hb1
                  clear hb1 hb1'
                  go_cut [] from 61 to 115 (fun w' => St Zf [BlkA H 46 (lka y), OwA lkc 7 46 (.slice (some ⟨g, 0, none⟩) L.length c2) T] w w')
                  case first =>
                    cases b1
                    · have h1 : ¬ fr = node := by have := HB1.out; simpa using this
                      have hye : y = { x with tp := pv, tn := nx } := by rw [HY.out]; unfold layL; rw [if_neg (fun e => h1 (HFR.out.trans e))]
                      have h6 := Lib.hid ((HAA.out.setBlk 4 (.int .i64 pv)).setBlk 6 (.int .i64 nx))
                      have HYE := Lib.hid hye
                      clear hye h1 HB1
                      go_wp2
                      go_meet
                      rw [HYE.out]
                      exact h6.out
                    · have h1 : fr = node := by have := HB1.out; simpa using this
                      have h5 := (HAA.out.setBlk 3 (.int .i64 pv)).setBlk 5 (.int .i64 nx)
                      have h5 : St Zf [BlkA H 46 (lka { x with fp := pv, fn := nx }), OwA lkc 7 46 (.slice (some ⟨g, 0, none⟩) L.length c2) T] w ((w2.setCell ⟨H, 3, none⟩ (.int .i64 pv)).setCell ⟨H, 5, none⟩ (.int .i64 nx)) := h5
                      by_cases h2 : tz = node
                      · have e8 : (tz == node) = true := by simp [h2]
                        have hye : y = { x with fp := pv, fn := nx, tp := -1, tn := -1 } := by rw [HY.out]; unfold layL; rw [if_pos (HFR.out.symm.trans h1), if_pos (HTZ.out.symm.trans h2)]
                        have h6 := Lib.hid ((h5.setBlk 4 (.int .i64 (-1))).setBlk 6 (.int .i64 (-1)))
                        have HYE := Lib.hid hye
                        clear hye h1 h2 h5 HB1
                        go_wp2
                        go_meet
                        rw [HYE.out]
                        exact h6.out
                      · have e8 : (tz == node) = false := beq_eq_false_iff_ne.2 h2
                        have e9 : decide (tz = node) = false := decide_eq_false h2
                        have hye : y = { x with fp := pv, fn := nx } := by rw [HY.out]; unfold layL; rw [if_pos (HFR.out.symm.trans h1), if_neg (fun e => h2 (HTZ.out.trans e))]
                        have h6 := Lib.hid h5
                        have HYE := Lib.hid hye
                        clear hye h1 h2 h5 HB1
                        go_wp2
                        go_meet
                        rw [HYE.out]
                        exact h6.out
                  case rest =>
                    have H6 := Lib.hid hcut
                    clear hcut HAA HY HFR HTZ HTB HB1 x1 x2 x3 x4 x5 x6 f1 f2 f3 f4 f5 f6
                    go_upto_region 30 with fail
                    obtain ⟨b9, off9, hA9, -, hcs9⟩ := (H6.out.rl h' hB').allI (by omega)
                    simp only [Option.some.injEq, Addr.mk.injEq, and_true] at hA9
                    obtain ⟨rfl, rfl⟩ := hA9
                    have hc9 := hcs9 k hlt
                    rw [HM.out] at hc9
                    have hb9 := H6.out.blk
                    have y0 : wc.cell? ⟨H, 0, none⟩ = some (.bool y.lv) := by rw [hb9.cell]; rfl
                    have y1 : wc.cell? ⟨H, 1, none⟩ = some (.int .i64 y.fr) := by rw [hb9.cell]; rfl
                    have y2 : wc.cell? ⟨H, 2, none⟩ = some (.int .i64 y.to) := by rw [hb9.cell]; rfl
                    have y3 : wc.cell? ⟨H, 3, none⟩ = some (.int .i64 y.fp) := by rw [hb9.cell]; rfl
                    have y4 : wc.cell? ⟨H, 4, none⟩ = some (.int .i64 y.tp) := by rw [hb9.cell]; rfl
                    have y5 : wc.cell? ⟨H, 5, none⟩ = some (.int .i64 y.fn) := by rw [hb9.cell]; rfl
                    have y6 : wc.cell? ⟨H, 6, none⟩ = some (.int .i64 y.tn) := by rw [hb9.cell]; rfl
                    obtain ⟨g9, hg9, hth9, h9⟩ := H6.out.swap.drew.storeRow lkc_f htl hml y
                    simp only [Option.some.injEq, Addr.mk.injEq, and_true] at hg9
                    subst hg9
                    have H9 := Lib.hid h9.dropSnd
                    have HTH := Lib.hid hth9
                    clear hcs9 hb9 h9 hth9
                    go_still_tail 7, (by kernel_rfl)
                    change wpList _ _ _ _ _ wc.drew
                    obtain ⟨w7, hw7⟩ : ∃ q, q = wc.drew := ⟨_, rfl⟩
                    rw [← hw7] at H9 HTH ⊢
                    clear hw7
                    refine wpList_store_mid rfl 46 _ _ rfl g (m * 7) (lka y) (by rfl) (by rfl) (by exact HTH.out) lk_size (by rw [← Array.all_toList]; rfl) ?_
                    clear y0 y1 y2 y3 y4 y5 y6 hc9 HTH
                    go_wp2
                    go_roundw
                    case rel => exact ⟨k + 1, by omega, by go_num, by rw [HSU.out]; exact H9.out⟩
                    case measure => simp [intOf]; omega
            · obtain rfl : k = O.length := by omega
              have HST := Lib.hid hst
              clear hst h h'
              go_wp2
              go_ret2
              refine ⟨_, by rw [HCK.out]; rfl, ?_, HST.out.bel⟩
              have := HST.out.ownR
              have hth : thrP L node O = thrK L node O O.length := by unfold thrP; rw [if_pos HCK.out]
              rw [hth, thrK_len]
              rwa [thrK_len] at this
end Go.Proofs.Ytpdaiiakdlngjaa
