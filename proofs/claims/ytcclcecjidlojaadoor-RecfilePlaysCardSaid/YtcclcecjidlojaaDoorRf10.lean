/- recfile: Open. -/
import Derived.Test.YtcclcecjidlojaaDoorRf9
namespace Go.Proofs.YtcclcecjidlojaaDoor
open Go.RowKit
set_option linter.unusedVariables false
section
variable {S0 : Fp} {l : List Ass} {w0 w : World} {g : Nat} {K V S : Int} {R : List Nat} {lv lo : Int}

theorem meas_lt {k n : Nat} (h : k < n) : n - (intOf (.int .i64 ((k : Int) + 1))).toNat < n - (intOf (.int .i64 (k : Int))).toNat := by
  show n - ((k + 1 : Nat) : Int).toNat < n - ((k : Nat) : Int).toNat
  rw [Int.toNat_natCast, Int.toNat_natCast]
  exact Nat.sub_lt_sub_left h (Nat.lt_succ_self k)
/-- the first fault among the first k records -/
def recsErr (R : List Nat) (s : Nat) : Nat → Int
  | 0 => 0
  | k + 1 => if recsErr R s k = 0 then recErr R s k else recsErr R s k
theorem recsErr_first {s k : Nat} (h0 : recsErr R s k = 0) (h1 : recErr R s k ≠ 0) : ∀ n, k < n → recsErr R s n = recErr R s k
  | 0, h => by omega
  | n + 1, h => by
    unfold recsErr
    by_cases hk : k = n
    · subst hk
      rw [if_pos h0]
    · have ih := recsErr_first h0 h1 n (by omega)
      rw [ih, if_neg h1]
/-- how many of the first k are in use -/
def liveN (R : List Nat) (s : Nat) : Nat → Nat
  | 0 => 0
  | k + 1 => liveN R s k + if nth R (k * s) = 1 then 1 else 0
theorem liveN_le (s : Nat) : ∀ k, liveN R s k ≤ k
  | 0 => Nat.le_refl _
  | k + 1 => by
    have := liveN_le s k
    unfold liveN
    split <;> omega
theorem usedB_in {s n k : Nat} (h : k < n) : usedB R s n (k : Int) = decide (nth R (k * s) = 1) := by
  unfold usedB
  rw [decide_eq_true (by omega), decide_eq_true (by omega), Int.toNat_natCast]
  rfl
def openErr (bs : List Nat) : Int :=
  if bs.length < 16 then 10 else if hdErr bs = 0 then (if hd bs 8 4 ≤ 65536 ∧ (bs.drop 16).length = hd bs 8 4 * hd bs 6 2 then recsErr (bs.drop 16) (hd bs 6 2) (hd bs 8 4) else 92) else hdErr bs
theorem hdErr_ok {bs : List Nat} (h16 : 16 ≤ bs.length) (h : hdErr bs = 0) : 2 ≤ hd bs 6 2 ∧ hd bs 6 2 ≤ 255 ∧ bs.take 4 = [83, 82, 69, 67] ∧ hd bs 12 4 = crc (bs.take 12) := by
  unfold hdErr at h
  rw [if_neg (by omega)] at h
  by_cases h1 : bs.take 4 = [83, 82, 69, 67]
  · rw [if_pos h1] at h
    by_cases h2 : hd bs 12 4 = crc (bs.take 12)
    · rw [if_pos h2] at h
      by_cases h3 : (decide (2 ≤ (hd bs 6 2 : Int)) && decide ((hd bs 6 2 : Int) ≤ 255)) = true
      · simp only [Bool.and_eq_true, decide_eq_true_eq] at h3
        exact ⟨by omega, by omega, h1, h2⟩
      · rw [if_neg h3] at h
        exact absurd h (by decide)
    · rw [if_neg h2] at h
      exact absurd h (by decide)
  · rw [if_neg h1] at h
    exact absurd h (by decide)
set_option maxRecDepth 100000 in
set_option maxHeartbeats 800000 in
theorem rfOpen_head [Stable (Sep l)] {A : Option Addr} {cap B : Nat} {bs : List Nat} (h : St S0 l w0 w) (hr : RB w B A bs) (hB : B ≤ w.heap.size) (hT : TabW w) (hl2 : bs.length ≤ 140737488355328) (hcap : bs.length ≤ cap) (he : bs.length < 16 ∨ hdErr bs ≠ 0) :
    Calls Tryd.prog 19 #[.slice A bs.length cap] w fun e w' => e = .returned (.tuple #[.pointer none, .int .i64 (openErr bs)]) ∧ openErr bs ≠ 0 ∧ St S0 l w0 w' := by
  have HH := Lib.hid h
  obtain ⟨ee, hee, hne, hdx⟩ : ∃ ee, openErr bs = ee ∧ ee ≠ 0 ∧ Calls Tryd.prog 48 #[.slice A bs.length cap] w fun e w' => e = .returned (.tuple #[.pointer none, .int .i64 0, .int .i64 ee]) ∧ Below w.heap.size w w' := by
    by_cases h1 : bs.length < 16
    · refine ⟨10, by unfold openErr; rw [if_pos h1], by decide, (readHeader_short h1).mono ?_⟩
      rintro e w' ⟨rfl, rfl⟩
      exact ⟨rfl, Below.refl _ _⟩
    · have h2 : hdErr bs ≠ 0 := by
        rcases he with h | h
        · exact absurd h h1
        · exact h
      refine ⟨hdErr bs, by unfold openErr; rw [if_neg h1, if_neg h2], h2, (readHeader_any hr hB hT (by omega) hl2 hcap).mono ?_⟩
      rintro e w' (⟨_, rfl, hb⟩ | ⟨h3, _⟩)
      · exact ⟨rfl, hb⟩
      · exact absurd h3 h2
  have HX := Lib.hid hdx
  have HE := Lib.hid hee
  have HNE := Lib.hid hne
  have e0 : (ee != 0) = true := by simp [hne]
  clear h hr hB hT hl2 hcap he hee hne hdx
  go_enter Tryd.func19, Tryd.ntmps19
  go_wp2_with (go_at_call 48; refine (HX.out).mono ?_; rintro e w1 ⟨rfl, hb⟩; have H1 := Lib.hid (HH.out.below hb); clear hb)
  go_ret2
  exact ⟨by rw [HE.out]; rfl, by rw [HE.out]; exact HNE.out, H1.out⟩
theorem wrap_nat {x : Nat} (h : x ≤ 1099511627776) : wrap64 (x : Int) = (x : Int) := rfwrap (by omega) (by omega)
/-- what stands behind the head, copied -/
theorem cloneTail {A : Option Addr} {b off B : Nat} {bs : List Nat} (hA : A = some ⟨b, off, none⟩) (hr : RB w B A bs) (h16 : 16 ≤ bs.length) (hl2 : bs.length ≤ 140737488355328) (o c : Nat) (ho : o = off + 16 ∨ bs.length = 16) (W : World) (hb : Below w.heap.size w W) (hB : B ≤ w.heap.size) :
    Calls Tryd.prog 49 #[.slice (some ⟨b, o, none⟩) (bs.length - 16) c] W (NewB (bs.drop 16) W) := by
  have hlen : (bs.drop 16).length = bs.length - 16 := List.length_drop
  have hr2 : RB W B (some ⟨b, o, none⟩) (bs.drop 16) := by
    rcases ho with rfl | h0
    · have := (hr.below' hb hB).cut hA 16 bs.length (Nat.le_refl _) h16
      rwa [List.take_length] at this
    · have hn : bs.drop 16 = [] := List.length_eq_zero_iff.1 (by rw [hlen]; omega)
      rw [hn]
      exact RB.empty _ _ _
  have := Clone_any (some ⟨b, o, none⟩) c B (bs.drop 16) W hr2 (Nat.le_trans hB hb.size) (by rw [hlen]; omega)
  rwa [hlen] at this
set_option maxRecDepth 100000 in
set_option maxHeartbeats 1000000 in
theorem rfOpen_body [Stable (Sep l)] {A : Option Addr} {cap B : Nat} {bs : List Nat} (h : St S0 l w0 w) (hr : RB w B A bs) (hB : B ≤ w.heap.size) (hT : TabW w) (h16 : 16 ≤ bs.length) (hl2 : bs.length ≤ 140737488355328) (hcap : bs.length ≤ cap) (he : hdErr bs = 0) :
    Calls Tryd.prog 19 #[.slice A bs.length cap] w fun e w' => (openErr bs ≠ 0 ∧ e = .returned (.tuple #[.pointer none, .int .i64 (openErr bs)]) ∧ St S0 l w0 w') ∨
      (openErr bs = 0 ∧ ∃ g, e = .returned (.tuple #[.pointer (some ⟨g, 0, none⟩), .int .i64 0]) ∧ St S0 (RfA g (hd bs 4 1 : Nat) (hd bs 5 1 : Nat) (hd bs 6 2 : Nat) (bs.drop 16) (liveN (bs.drop 16) (hd bs 6 2) (hd bs 8 4) : Nat) 0 :: l) w0 w') := by
  obtain ⟨b, off, hA, -, -⟩ := hr.all (by omega)
  have hoe : openErr bs = if hd bs 8 4 ≤ 65536 ∧ (bs.drop 16).length = hd bs 8 4 * hd bs 6 2 then recsErr (bs.drop 16) (hd bs 6 2) (hd bs 8 4) else 92 := by
    unfold openErr
    rw [if_neg (by omega), if_pos he]
  obtain ⟨hs1, hs2, -, -⟩ := hdErr_ok h16 he
  have hct := hd_lt hr.1 8 4 (by omega) h16
  have hx : Calls Tryd.prog 48 #[.slice A bs.length cap] w fun e w' => ∃ g, e = .returned (.tuple #[.pointer (some ⟨g, 0, none⟩), .int .i64 (hd bs 8 4 : Nat), .int .i64 0]) ∧ w.heap.size ≤ g ∧ Below w.heap.size w w' ∧ Blk w' g 72 #[.int .i64 (hd bs 4 1 : Nat), .int .i64 (hd bs 5 1 : Nat), .int .i64 (hd bs 6 2 : Nat), .slice none 0 0, .int .i64 0, .int .i64 0] :=
    (readHeader_any hr hB hT h16 (by omega) hcap).mono fun e w' h => by
      rcases h with ⟨h1, _⟩ | ⟨_, h2⟩
      · exact absurd he h1
      · exact h2
  have hcl := fun o c ho W hb => cloneTail hA hr h16 (by omega) o c ho W hb hB
  have hRl : (bs.drop 16).length = bs.length - 16 := List.length_drop
  obtain ⟨kd, hkd⟩ : ∃ x, x = hd bs 4 1 := ⟨_, rfl⟩
  obtain ⟨vr, hvr⟩ : ∃ x, x = hd bs 5 1 := ⟨_, rfl⟩
  obtain ⟨s, hs⟩ : ∃ x, x = hd bs 6 2 := ⟨_, rfl⟩
  obtain ⟨n, hn⟩ : ∃ x, x = hd bs 8 4 := ⟨_, rfl⟩
  obtain ⟨R, hR⟩ : ∃ x, x = bs.drop 16 := ⟨_, rfl⟩
  obtain ⟨E, hE⟩ : ∃ x, x = openErr bs := ⟨_, rfl⟩
  rw [← hkd, ← hvr, ← hs, ← hn] at hx
  rw [← hs] at hs1 hs2
  rw [← hn] at hct
  rw [← hR] at hcl hRl
  rw [← hE, ← hR, ← hs, ← hn] at hoe
  rw [← hE, ← hkd, ← hvr, ← hs, ← hn, ← hR]
  have e16 : (16 : Int) ≤ (bs.length : Int) := by omega
  have c16 : (16 : Int) ≤ (cap : Int) := by omega
  have e17 : (bs.length : Int) ≤ (cap : Int) := by omega
  obtain ⟨P, hP⟩ : ∃ P, P = n * s := ⟨_, rfl⟩
  have hPl : P ≤ 1099511627776 := by
    rw [hP]
    exact Nat.le_trans (Nat.mul_le_mul (Nat.le_of_lt hct) hs2) (by decide)
  have m1 : (n : Int) * (s : Int) = (P : Int) := by rw [hP, Int.natCast_mul]
  have m2 : wrap64 (P : Int) = (P : Int) := wrap_nat hPl
  rw [← hP] at hoe
  have HX := Lib.hid hx
  have HCL := Lib.hid hcl
  have HH := Lib.hid h
  have HOE := Lib.hid hoe
  have HP := Lib.hid hP
  have HSS := Lib.hid (And.intro hs1 hs2)
  have HRL := Lib.hid (And.intro hRl hl2)
  have HLN := Lib.hid (And.intro h16 hcap)
  subst hA
  clear h hr hB hT h16 hl2 hcap he hct hx hcl hRl hkd hvr hs hn hR hE hP hPl hoe hs1 hs2
  by_cases hc16 : cap = 16
  case' pos => subst hc16
  case' neg => have hc17 : 16 ≠ cap := fun e => hc16 e.symm
  all_goals
    go_enter Tryd.func19, Tryd.ntmps19
    go_upto_region 4 with (go_at_call 48; refine (HX.out).mono ?_; rintro e w1 ⟨g, rfl, hg, hb1, hk1⟩)
    have h1 := (HH.out.nilOb 5).add (Q := BlkA g 72 #[.int .i64 (kd : Int), .int .i64 (vr : Int), .int .i64 (s : Int), .slice none 0 0, .int .i64 0, .int .i64 0]) (F := fun k => k = g) hb1 ⟨hk1, rfl⟩ (fun k hk => by rw [hk]; exact hg)
    have H1 := Lib.hid h1
    have HB1 := Lib.hid hb1
    clear h1 hb1 hk1 hg
    go_upto_region 5 with (go_at_call 49; refine (HCL.out _ _ (by first | exact .inl rfl | exact .inr (by have := HLN.out; omega)) w1 HB1.out).mono ?_; rintro e w2 ⟨v2, rfl, ho2, hb2⟩; have h2 := (H1.out.newOb ho2 hb2).bring2.drop; obtain ⟨A2, c2, rfl, -, -, -, -⟩ := ho2.form; have fz := h2.swap.blk.frozen 3; have cz := (rf_cells h2.swap).2.2.2.1; have h3 := h2.swap.setBlk 3 (.slice A2 R.length c2); have H3 := Lib.hid h3; clear h2 h3 ho2 hb2)
    obtain ⟨w3, hw3⟩ : ∃ q, q = w2.setCell ⟨g, 3, none⟩ (.slice A2 R.length c2) := ⟨_, rfl⟩
    have h3 := H3.out
    rw [← hw3] at h3 ⊢
    have h4 : St S0 (RfA g (kd : Int) (vr : Int) (s : Int) R 0 0 :: l) w0 w3 := rf_shut h3
    have H4 := Lib.hid h4
    obtain ⟨d0, d1, d2, d3, d4, d5⟩ := rf_cells h3
    clear hw3 h3 h4 H3 fz cz H1 HX HCL HB1 e16 c16 e17
    by_cases hn : 65536 < n
    · have b0 : decide ((65536 : Int) < (n : Int)) = true := decide_eq_true (by omega)
      have b1 : decide (65536 < n) = true := decide_eq_true hn
      have he : Hid (E = 92) := Lib.hid (by rw [HOE.out, if_neg (fun h => by have := h.1; omega)])
      clear hn HOE m1 m2
      go_quiet (fail)
      go_wp2
      go_ret2
      exact .inl ⟨by rw [he.out]; decide, by rw [he.out]; rfl, (H4.out.drewN nq).drop⟩
    · have b0 : decide ((65536 : Int) < (n : Int)) = false := decide_eq_false (by omega)
      have b1 : decide (65536 < n) = false := decide_eq_false hn
      by_cases hrp : R.length = P
      · have e1 : ((R.length : Int) != (P : Int)) = false := by simp [hrp]
        have HE : Hid (E = recsErr R s n) := Lib.hid (by rw [HOE.out, if_pos ⟨by omega, hrp⟩])
        have HN : Hid (n ≤ 65536) := Lib.hid (by omega)
        have HRP : Hid (R.length = n * s) := Lib.hid (by rw [hrp, HP.out])
        clear hn hrp HOE
        go_quiet (fail)
        have h5 := H4.out.drewN nq
        obtain ⟨w5, hw5⟩ : ∃ q, q = w3.drewN nq := ⟨_, rfl⟩
        rw [← hw5] at h5 ⊢
        have H5 := Lib.hid h5
        clear h5 hw5 d0 d1 d2 d3 d4 d5 m1 m2 H4
        go_wp2_with fail
        go_loopw [41] (fun i wr => ∃ k : Nat, k ≤ n ∧ i = .int .i64 k ∧ recsErr R s k = 0 ∧ St S0 (RfA g (kd : Int) (vr : Int) (s : Int) R (liveN R s k : Nat) 0 :: l) w0 wr) (fun i _ => n - (intOf i).toNat)
        case atStart => exact ⟨0, Nat.zero_le _, rfl, rfl, H5.out⟩
        case round =>
          obtain ⟨k, hk, rfl, hz, hst⟩ := hrel
          clear H5
          by_cases hlt : k < n
          · obtain ⟨A9, c9, hr9⟩ := rf_read hst
            have hck := checkRecord_any hr9 HSS.out.1 HSS.out.2 HRP.out HN.out hlt
            have hfirst := recsErr_first (R := R) (s := s) (k := k) hz
            have hnext : recErr R s k = 0 → recsErr R s (k + 1) = 0 := fun h => by
              show (if recsErr R s k = 0 then recErr R s k else recsErr R s k) = 0
              rw [if_pos hz, h]
            obtain ⟨ce, hce⟩ : ∃ x, x = recErr R s k := ⟨_, rfl⟩
            rw [← hce] at hck hfirst hnext
            have hub := usedB_in (R := R) (s := s) hlt
            have hlv : liveN R s (k + 1) = liveN R s k + if nth R (k * s) = 1 then 1 else 0 := rfl
            have hll := liveN_le (R := R) s k
            have hN := HN.out
            have hss := HSS.out
            have hRl : R.length ≤ 1099511627776 := rf_big HRP.out hN hss.2
            have HU := Lib.hid (fun (w' : World) (h' : St S0 (RfA g (kd : Int) (vr : Int) (s : Int) R (liveN R s k : Nat) 0 :: l) w0 w') => by
              obtain ⟨A, cap, hr⟩ := rf_read h'
              exact rfUsed_any hr (Nat.lt_of_lt_of_le (by decide) hss.1) HRP.out hRl (k : Int))
            rw [hub] at HU
            obtain ⟨m, hm⟩ : ∃ m, m = liveN R s k := ⟨_, rfl⟩
            rw [← hm] at hst HU hlv hll
            have hmw : wrap64 ((m : Int) + 1) = (m : Int) + 1 := wrap_nat (x := m + 1) (by omega)
            obtain ⟨ub, hu0⟩ : ∃ q, q = decide (nth R (k * s) = 1) := ⟨_, rfl⟩
            rw [← hu0] at HU
            have HU0 := Lib.hid hu0
            have HLV := Lib.hid hlv
            have HST := Lib.hid hst
            have HCK := Lib.hid hck
            have HFI := Lib.hid (hfirst · n hlt)
            have HNX := Lib.hid hnext
            clear hz hst hr9 hck hfirst hnext hce hub hlv hll hN hss hRl hm hu0
            by_cases h0 : ce = 0
            · subst h0
              have HN0 := Lib.hid (HNX.out rfl)
              clear HFI HNX
              have hlt2 : k + 1 ≤ n := hlt
              have hkw : wrap64 ((k : Int) + 1) = (k : Int) + 1 := wrap_nat (x := k + 1) (by have := HN.out; omega)
              cases ub
              · have hl2 : Hid (liveN R s (k + 1) = m) := Lib.hid (by
                  have : ¬ nth R (k * s) = 1 := fun h => absurd (HU0.out.trans (decide_eq_true h)) (by decide)
                  rw [HLV.out, if_neg this, Nat.add_zero])
                clear HU0 HLV hmw
                go_wp2_with (first
                  | (go_at_call 50; refine (HCK.out).mono ?_; rintro e w6 ⟨rfl, q6, hw6⟩; have h6 := HST.out.drewN q6; rw [← hw6] at h6; have H6 := Lib.hid h6; clear h6 hw6)
                  | (go_at_call 51; refine (HU.out w6 H6.out).mono ?_; rintro e w7 ⟨rfl, q7, hw7⟩; have h7 := H6.out.drewN q7; rw [← hw7] at h7; have H7 := Lib.hid h7; clear h7 hw7))
                go_roundw
                case rel => exact ⟨k + 1, hlt2, by go_num, HN0.out, by rw [hl2.out]; exact H7.out⟩
                case measure => first | exact meas_lt hlt | (rw [hkw]; exact meas_lt hlt)
              · have hl2 : Hid (((m : Int) + 1) = ((liveN R s (k + 1) : Nat) : Int)) := Lib.hid (by
                  have : nth R (k * s) = 1 := of_decide_eq_true HU0.out.symm
                  rw [HLV.out, if_pos this]
                  rfl)
                clear HU0 HLV
                go_wp2_with (first
                  | (go_at_call 50; refine (HCK.out).mono ?_; rintro e w6 ⟨rfl, q6, hw6⟩; have h6 := HST.out.drewN q6; rw [← hw6] at h6; have H6 := Lib.hid h6; clear h6 hw6)
                  | (go_at_call 51; refine (HU.out w6 H6.out).mono ?_; rintro e w7 ⟨rfl, q7, hw7⟩; have h7 := H6.out.drewN q7; rw [← hw7] at h7; obtain ⟨v8, h8⟩ := rf_open h7; obtain ⟨d0, d1, d2, d3, d4, d5⟩ := rf_cells h8; have f4 := h8.blk.frozen 4; have H8 := Lib.hid (h8.setBlk 4 (.int .i64 ((m : Int) + 1))); clear h7 hw7 h8))
                go_roundw
                case rel =>
                  refine ⟨k + 1, hlt2, by go_num, HN0.out, ?_⟩
                  rw [← hl2.out]
                  exact rf_shut H8.out
                case measure => first | exact meas_lt hlt | (rw [hkw]; exact meas_lt hlt)
            · have e0 : (ce != 0) = true := by simp [h0]
              have HF0 := Lib.hid (HFI.out h0)
              have HNE := Lib.hid h0
              clear HFI HNX h0
              go_wp2_with (go_at_call 50; refine (HCK.out).mono ?_; rintro e w6 ⟨rfl, q6, hw6⟩; have h6 := HST.out.drewN q6; rw [← hw6] at h6; have H6 := Lib.hid h6; clear h6 hw6)
              go_ret2
              exact .inl ⟨by rw [HE.out, HF0.out]; exact HNE.out, by rw [HE.out, HF0.out]; rfl, H6.out.drop⟩
          · obtain rfl : k = n := by omega
            have HZ := Lib.hid hz
            have HST := Lib.hid hst
            clear hz hst
            go_wp2
            go_ret2
            exact .inr ⟨by rw [HE.out]; exact HZ.out, g, rfl, HST.out⟩
      · have e1 : ((R.length : Int) != (P : Int)) = true := bne_iff_ne.2 (by omega)
        have he : Hid (E = 92) := Lib.hid (by rw [HOE.out, if_neg (fun h => hrp h.2)])
        clear hn HOE hrp
        go_quiet (fail)
        go_wp2
        go_ret2
        exact .inl ⟨by rw [he.out]; decide, by rw [he.out]; rfl, (H4.out.drewN nq).drop⟩
end
end Go.Proofs.YtcclcecjidlojaaDoor
