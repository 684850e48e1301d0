/- Lists are told in new memory: what is written into one answer alters no other answer and no argument, for any list and order within the form's reach. -/
import Derived.Test.YtpdaiiakdlngjaaOpen
import Derived.Test.YtpdaiiakdlngjaaRows
import Derived.Test.YtpdaiiakdlngjaaLkSpeak
import Derived.Test.YtpdaiiakdlngjaaLkOpen
import Derived.Test.YtpdaiiakdlngjaaLkPure2
import Derived.Test.YtpdaiiakdlngjaaLk9
import Derived.Test.YtpdaiiakdlngjaaLk4
import Derived.Deep.QuietTactic
import Derived.BigQuiet
import Derived.Deep.Cut
import Derived.Deep.RegionHeld3
namespace Go.Proofs.Ytpdaiiakdlngjaa.linksOwn
open Go.ChangeShapes Go.WideShapes Go.ChangeAt Go.RowKit
open Go.ChangeMaps (open_string shut_string)
set_option linter.unusedVariables false

set_option maxRecDepth 100000 in
set_option maxHeartbeats 1000000 in
theorem walk (w : World) {A : Option Addr} {L : List LkC} {c : Nat} (hx : RR lkc 7 w w.heap.size A L ∧ L.length * 56 ≤ 140737488351232) {n : Int} {A' : Option Addr} {O : List Int} {c' : Nat} (hy : RL ivl w w.heap.size A' O ∧ (∀ x ∈ O, inI x) ∧ O.length ≤ c' ∧ c' * 8 ≤ 140737488351232) :
    Calls Try.prog 9 #[.slice A L.length c, .agg #[.int .i64 n, .slice A' O.length c']] w fun e w' => e = .returned (.bool true) ∧ Below w.heap.size w w' := by
  obtain ⟨hr, hl⟩ := hx
  obtain ⟨hr', hin, hoc, hcm⟩ := hy
  obtain ⟨j0, hj, hy0, hy1, hy2⟩ := info_parts nint_info
  have hl2 : L.length * 56 ≤ 140737488355328 := by omega
  have hl3 : O.length ≤ 140737488355328 := by omega
  have hl4 : O.length * 8 ≤ 140737488355328 := by omega
  have hl5 : O.length * 8 ≤ 140737488351232 := by omega
  have HR := Lib.hid hr
  have HRO := Lib.hid hr'
  have HT0 := fun (A2 : Option Addr) (c2 : Nat) (W : World) (h : RR lkc 7 W W.heap.size A2 L) (h' : RL ivl W w.heap.size A' O) (hW : w.heap.size ≤ W.heap.size) => Thread_any A2 c2 W.heap.size L n A' c' w.heap.size O W h (Nat.le_refl _) hl2 h' hW hl3 hin
  have hlaid : chk L n O = 0 → walkP (thrP L n O) n (atI O 0) = (O, 0) := fun h => by
    have : thrP L n O = thrK L n O O.length := by unfold thrP; rw [if_pos h]
    rw [this]
    exact walkP_laid (Laid.thr h) (fun i j a b => chkP_unlike h a b)
  have HIN := incK_len L n L.length
  have HQ0 := fun (W : World) (h : RR lkc 7 W w.heap.size A L) (h' : RL ivl W w.heap.size A' O) (hW : w.heap.size ≤ W.heap.size) => refThread_any A c w.heap.size L n A' c' w.heap.size O W h hW hl2 h' hW hl3 hin
  unfold NewT at HT0 HQ0
  have htl : (thrP L n O).length ≤ L.length := by
    unfold thrP
    split
    · rw [thrK_len]; exact Nat.le_refl _
    · exact Nat.zero_le _
  obtain ⟨E, hE⟩ : ∃ E, E = chk L n O := ⟨_, rfl⟩
  obtain ⟨T, hT⟩ : ∃ T, T = thrP L n O := ⟨_, rfl⟩
  rw [← hE, ← hT] at HT0 HQ0
  rw [← hT] at htl hlaid
  rw [← hE] at hlaid
  have HLA := Lib.hid hlaid
  have HTH := Lib.hid HT0
  have HQH := Lib.hid HQ0
  have HF : Hid (∀ w', St Zf [BlkA w.heap.size 31 #[.int .i64 n, .slice A' O.length c']] w w' → w'.cell? ⟨w.heap.size, 0, none⟩ = some (.int .i64 n) ∧ w'.cell? ⟨w.heap.size, 1, none⟩ = some (.slice A' O.length c')) :=
    Lib.hid fun w' h => ⟨by rw [h.blk.cell]; rfl, by rw [h.blk.cell]; rfl⟩
  clear hlaid hr hr' hin hoc hcm HT0 HQ0 hE hT
  obtain ⟨i0, z0, hi, hz, hx1, hx2, hz1⟩ := row_info link_info
  have HN9 := Lib.hid (fun W : World => run_build (P := Try.prog) W 46 #[(1, .int .i64 (-9))] #[.bool false, .int .i64 (-9), .int .i64 0, .int .i64 0, .int .i64 0, .int .i64 0, .int .i64 0] (by kernel_rfl))
  have HTM : T.length * 56 ≤ 140737488355328 := by omega
  go_enter Try.func9, Try.ntmps9
  go_upto_region 3 with (go_at_call 10; refine (lkSpeaks_any _).mono ?_; rintro e w1 ⟨rfl, hb1⟩)
  have h1 := ((St.start Zf w).newBlk 31 #[.int .i64 n, .slice A' O.length c']).below hb1
  obtain ⟨k0, k1⟩ := HF.out _ h1
  have H1 := Lib.hid h1
  clear h1 hb1
  go_upto_region 7 with (first
    | (go_at_call 11; refine (copied_any A c w.heap.size L w1 (H1.out.rr HR.out (Nat.le_refl _)) H1.out.size hl2).mono ?_; rintro e w2 ⟨v2, rfl, ho2, hb2⟩; have h2 := Lib.hid (H1.out.newOw ho2 hb2); obtain ⟨A2, c2, rfl, -, -, -⟩ := h2.out.owForm; obtain ⟨_, _⟩ := HF.out _ h2.out.drop; clear ho2 hb2)
    | (go_at_call 16; (with_reducible refine (HTH.out A2 c2 w2 h2.out.owReads.2.1 (h2.out.rl HRO.out (Nat.le_refl _)) h2.out.size).mono ?_); rintro e w3 ⟨v3, rfl, ho3, hb3⟩; have h3 := Lib.hid (h2.out.newOw ho3 hb3); obtain ⟨A3, c3, rfl, -, -, -⟩ := h3.out.owForm; obtain ⟨_, _⟩ := HF.out _ h3.out.drop.drop; clear ho3 hb3)
    | (go_at_call 16; (with_reducible refine (HTH.out A2 c2 w3 h3.out.swap.owReads.2.1 (h3.out.rl HRO.out (Nat.le_refl _)) h3.out.size).mono ?_); rintro e w4 ⟨v4, rfl, ho4, hb4⟩; have h4 := Lib.hid (h3.out.newOw ho4 hb4); obtain ⟨A4, c4, rfl, -, -, -⟩ := h4.out.owForm; obtain ⟨_, _⟩ := HF.out _ h4.out.drop.drop.drop; clear ho4 hb4)
    | (go_at_call 17; refine (HQH.out w4 (h4.out.rr HR.out (Nat.le_refl _)) (h4.out.rl HRO.out (Nat.le_refl _)) h4.out.size).mono ?_; rintro e w5 ⟨v5, rfl, ho5, hb5⟩; have h5 := Lib.hid ((h4.out.newOw ho5 hb5).bring2); obtain ⟨A5, c5, rfl, -, -, -⟩ := h5.out.swap.owForm; obtain ⟨_, _⟩ := HF.out _ h5.out.drop.drop.drop.drop; clear ho5 hb5))
  have H5 := Lib.hid h5.out
  clear h2 h3 h4 h5 H1 HTH HQH
  go_wp2_with fail
  go_loopw [54] (fun i wr => ∃ (k : Nat) (X : List LkC), k ≤ T.length ∧ i = .int .i64 k ∧ X.length = T.length ∧ St Zf [OwA lkc 7 46 (.slice A3 T.length c3) X, OwA lkc 7 46 (.slice A5 T.length c5) T, OwA lkc 7 46 (.slice A4 T.length c4) T, OwA lkc 7 46 (.slice A2 L.length c2) L, BlkA w.heap.size 31 #[.int .i64 n, .slice A' O.length c']] w wr) (fun i _ => T.length - (intOf i).toNat)
  case atStart => exact ⟨0, T, Nat.zero_le _, rfl, rfl, H5.out⟩
  case round =>
    obtain ⟨k, X, hk, rfl, hXl, hst⟩ := hrel
    clear H5
    by_cases hlt : k < T.length
    · obtain ⟨g, hA, hth, hst'⟩ := hst.storeRow lkc_f hXl hlt ⟨false, -9, 0, 0, 0, 0, 0⟩
      subst hA
      have HST := Lib.hid hst'
      have HTH := Lib.hid hth
      have hbl := HN9.out wr
      have HXL : Hid ((X.set k (⟨false, -9, 0, 0, 0, 0, 0⟩ : LkC)).length = T.length) := Lib.hid (by rw [List.length_set, hXl])
      clear hst hst' hth hXl
      go_wp2_with (refine wpList_store_mid rfl 46 _ _ rfl g (k * 7) (lka ⟨false, -9, 0, 0, 0, 0, 0⟩) (by rfl) (by rfl) (by exact HTH.out) lk_size (by rw [← Array.all_toList]; rfl) ?_)
      go_roundw
      case rel => exact ⟨k + 1, _, by omega, by go_num, HXL.out, HST.out⟩
      case measure => simp [intOf]; omega
    · obtain rfl : k = T.length := by omega
      have hlit := World.ownsRow_lit (base := 0) (e := 46) (size := 7) wr (lka ⟨false, -9, 0, 0, 0, 0, 0⟩) 1 (Nat.zero_le _) (by unfold maxLen; omega) rfl
      obtain ⟨A9, c9, hv9, -, -, hrr⟩ := own_formR (f := lkc) (L := [(⟨false, -9, 0, 0, 0, 0, 0⟩ : LkC)]) hlit
      simp only [Value.slice.injEq] at hv9
      obtain ⟨rfl, -, -⟩ := hv9
      have HST := Lib.hid (hst.alloc (.cells (lka ⟨false, -9, 0, 0, 0, 0, 0⟩) 46))
      have HRR := Lib.hid hrr
      have hbl := HN9.out wr
      have hby : (X.length + 1) * 56 ≤ 140737488355328 := by omega
      have hXO := Lib.hid hXl
      clear hst hlit hrr hXl
      go_upto_region 13 with (at_builtin; refine wpList_append_rows (f := lkc) (s := 7) _ lkc_f rfl _ _ 22 rfl 0 46 i0 z0 56 Try.underlying22 hi hz hx1 hx2 hz1 _ X (by rfl) HST.out.ow _ 1 _ [(⟨false, -9, 0, 0, 0, 0, 0⟩ : LkC)] 1 rfl (by rfl) HRR.out hby (by omega) (Nat.zero_le _) ?_; intro v7 w7 hown7 hg7 hat7; have h7 := HST.out.grewOw hown7 hg7 hat7 (Nat.le_refl _); obtain ⟨A7, c7, rfl, -, -, -⟩ := h7.owForm; have H7 := Lib.hid h7.drop; clear hown7 hg7 hat7 h7)
      clear HST HRR hbl hby hXO
      obtain ⟨k0, k1⟩ := HF.out _ H7.out.drop.drop.drop
      have HI0 := fun (W : World) (h : RR lkc 7 W W.heap.size A2 L) => Incident_any A2 c2 W.heap.size L n W h (Nat.le_refl _) hl2
      have HJ0 := fun (W : World) (h : RR lkc 7 W w.heap.size A L) (hW : w.heap.size ≤ W.heap.size) => refIncident_any A c w.heap.size L n W h hW hl2
      unfold NewI at HI0 HJ0
      obtain ⟨I, hI⟩ : ∃ I, I = incK L n L.length := ⟨_, rfl⟩
      rw [← hI] at HI0 HJ0 HIN
      have HIH := Lib.hid HI0
      have HJH := Lib.hid HJ0
      clear HI0 HJ0 hI
      go_region_held3 (fun w' => w'.cell? ⟨w.heap.size, 0, none⟩ = some (.int .i64 n)) (go_keep)
        ((first
          | (go_at_call 13; (refine (HIH.out w7.drew H7.out.drew.bring2.owReads.2.1).mono ?_); rintro e w8 ⟨v8, rfl, ho8, hb8⟩; have h8 := Lib.hid (H7.out.drew.newOl ho8 hb8); obtain ⟨A8, c8, rfl, -, -, -, -⟩ := ho8.form; obtain ⟨_, _⟩ := HF.out _ h8.out.drop.drop.drop.drop; clear ho8 hb8)
          | (go_at_call 13; (refine (HIH.out w8 h8.out.bring3.owReads.2.1).mono ?_); rintro e w9 ⟨v9, rfl, ho9, hb9⟩; have h9 := Lib.hid (h8.out.newOl ho9 hb9).swap; obtain ⟨A9, c9, rfl, -, -, -, -⟩ := ho9.form; obtain ⟨_, _⟩ := HF.out _ h9.out.drop.drop.drop.drop.drop; clear ho9 hb9)))
      have H9 := Lib.hid h9.out
      clear h8 h9 H7 k0 k1
      go_wp2_with fail
      go_loopw [76] (fun i wr => ∃ (k : Nat) (Y : List Int), k ≤ I.length ∧ i = .int .i64 k ∧ Y.length = I.length ∧ St Zf [OlA ivl 3 (.slice A8 I.length c8) Y, OlA ivl 3 (.slice A9 I.length c9) I, OwA lkc 7 46 (.slice A5 T.length c5) T, OwA lkc 7 46 (.slice A4 T.length c4) T, OwA lkc 7 46 (.slice A2 L.length c2) L, BlkA w.heap.size 31 #[.int .i64 n, .slice A' O.length c']] w wr) (fun i _ => I.length - (intOf i).toNat)
      case atStart => exact ⟨0, I, Nat.zero_le _, rfl, rfl, H9.out⟩
      case round =>
        obtain ⟨k, Y, hk, rfl, hYl, hst⟩ := hrel
        clear H9
        by_cases hlt : k < I.length
        · obtain ⟨g, hA, ⟨u0, hu0⟩, hfz, hst'⟩ := hst.storeOlL hYl hlt (-9) (ivl_ok (-9))
          subst hA
          have HST := Lib.hid hst'
          have HYL : Hid ((Y.set k (-9)).length = I.length) := Lib.hid (by rw [List.length_set, hYl])
          clear hst hst' hYl
          go_wp2
          go_roundw
          case rel => exact ⟨k + 1, _, by omega, by go_num, HYL.out, HST.out⟩
          case measure => simp [intOf]; omega
        · obtain rfl : k = I.length := by omega
          have hrl := RL.litI wr 3 [-9, -9] #[.int .i64 (-9), .int .i64 (-9)] rfl (by decide)
          have HST := Lib.hid (hst.alloc (.cells #[.int .i64 (-9), .int .i64 (-9)] 3))
          have HRL := Lib.hid hrl
          have hby : (Y.length + 2) * 8 ≤ 140737488355328 := by omega
          clear hst hrl hYl
          go_upto_region 20 with (at_builtin; refine wpList_append_list _ rfl _ _ 26 rfl 0 3 j0 _ 8 Try.underlying26 hj hy0 hy1 hy2 rfl _ Y (by rfl) HST.out.ol _ _ _ [-9, -9] 2 rfl (by rfl) HRL.out hby (by omega) (Nat.zero_le _) ?_; intro v10 w10 hown10 hg10 hat10; have h10 := HST.out.grewOl hown10 hg10 hat10 (Nat.le_refl _); obtain ⟨A10, c10, rfl, -, -, -, -⟩ := hown10.form; have H10 := Lib.hid h10.drop; clear hown10 hg10 hat10 h10)
          clear HST HRL hby
          obtain ⟨k0, k1⟩ := HF.out _ H10.out.drop.drop.drop.drop
          go_upto_region 22 with (first
            | (go_at_call 15; (with_reducible refine (sameLk_yes A4 A5 T.length c4 c5 w10.heap.size w10.heap.size T w10 H10.out.bring2.owReads.2.1 H10.out.swap.owReads.2.1 rfl (by omega)).mono ?_); rintro e w11 ⟨rfl, n11, hw11⟩; have h11 := H10.out.drewN n11; rw [← hw11] at h11; have H11 := Lib.hid h11; obtain ⟨_, _⟩ := HF.out _ H11.out.drop.drop.drop.drop; clear hw11 h11)
            | (go_at_call 15; (with_reducible refine (sameLk_yes A2 A L.length c2 c w11.heap.size w.heap.size L w11 H11.out.bring3.owReads.2.1 (H11.out.rr HR.out (Nat.le_refl _)) rfl (by omega)).mono ?_); rintro e w12 ⟨rfl, n12, hw12⟩; have h12 := H11.out.drewN n12; rw [← hw12] at h12; have H12 := Lib.hid h12; obtain ⟨_, _⟩ := HF.out _ H12.out.drop.drop.drop.drop; clear hw12 h12)
            | (go_at_call 14; refine (HJH.out w12 (H12.out.rr HR.out (Nat.le_refl _)) H12.out.size).mono ?_; rintro e w13 ⟨v13, rfl, ho13, hb13⟩; have h13 := Lib.hid (H12.out.newOl ho13 hb13); obtain ⟨A13, c13, rfl, -, -, -, -⟩ := ho13.form; clear ho13 hb13)
            | (go_at_call 12; refine (sameInts_yes A9 A13 I.length c9 c13 w13.heap.size w13.heap.size I w13 h13.out.swap.ol.reads.2.1 h13.out.ol.reads.2.1 rfl (by unfold maxLen; omega)).mono ?_; rintro e w14 ⟨rfl, n14, hw14⟩; have h14 := h13.out.drop.drewN n14; rw [← hw14] at h14; have H14 := Lib.hid h14; obtain ⟨_, _⟩ := HF.out _ H14.out.drop.drop.drop.drop; clear hw14 h14))
          have H15 := Lib.hid H14.out.drop
          clear H10 H11 H12 h13 H14 HIH HJH HIN
          by_cases hE : E = 0
          case neg =>
            have e0 : (E != 0) = true := by simp [hE]
            clear hE
            go_wp2
            go_ret
            exact ⟨rfl, H15.out.bel⟩
          have e0 : (E != 0) = false := by simp [hE]
          have e0' : decide (E = 0) = true := by simp [hE]
          by_cases hO : O.length = 0
          case pos =>
            have f2 : ((O.length : Int) == 0) = true := by simp [hO]
            have f2' : decide ((O.length : Int) = 0) = true := by simp [hO]
            clear hE hO
            go_wp2
            go_ret
            exact ⟨rfl, H15.out.bel⟩
          have f2 : ((O.length : Int) == 0) = false := beq_eq_false_iff_ne.2 (by omega)
          have f2' : decide ((O.length : Int) = 0) = false := decide_eq_false (by omega)
          have hpos : 0 < O.length := by omega
          have hwl := HLA.out hE
          rw [show atI O 0 = nthI O 0 from atI_in (k := 0) hpos] at hwl
          obtain ⟨b, off, hA, hbB, hcs⟩ := HRO.out.allI hpos
          have hk0 := hcs 0 hpos
          obtain ⟨y, hy⟩ : ∃ y, y = nthI O 0 := ⟨_, rfl⟩
          rw [← hy] at hwl hk0
          have HKC : Hid (∀ w', Below w.heap.size w w' → w'.cell? ⟨b, off, none⟩ = some (.int .i64 y)) := Lib.hid fun w' hb => (hb.cell (p := ⟨b, off, none⟩) hbB).trans hk0
          have HW0 := fun (W : World) (h : RR lkc 7 W W.heap.size A4 T) => Walk_any A4 c4 W.heap.size T n y W h (Nat.le_refl _) HTM
          rw [hwl] at HW0
          have HWH := Lib.hid HW0
          subst hA
          have p0 : (0 : Int) < (O.length : Int) := by omega
          clear hE hO hwl hcs hk0 hy HW0
          go_upto_region 24 with fail
          clear e0 e0' f2 f2'
          have k2 := HKC.out _ H15.out.bel
          go_region_held3 (fun w' => w'.cell? ⟨w.heap.size, 0, none⟩ = some (.int .i64 n) ∧ w'.cell? ⟨w.heap.size, 1, none⟩ = some (.slice (some ⟨b, off, none⟩) O.length c') ∧ w'.cell? ⟨b, off, none⟩ = some (.int .i64 y)) (go_keep)
            ((first
              | (go_at_call 18; (refine (HWH.out w14.drew H15.out.drew.swap.owReads.2.1).mono ?_); rintro e w16 ⟨v16, rfl, ho16, hb16⟩; have h16 := Lib.hid (H15.out.drew.newOl ho16 hb16); obtain ⟨A16, c16, rfl, -, -, -, -⟩ := ho16.form; obtain ⟨_, _⟩ := HF.out _ h16.out.drop.drop.drop.drop; have _ := HKC.out _ h16.out.bel; clear ho16 hb16)))
          clear k0 k1 k2
          obtain ⟨k0, k1⟩ := HF.out _ h16.out.drop.drop.drop.drop
          have k2 := HKC.out _ h16.out.bel
          go_upto_region 25 with fail
          go_region_held3 (fun w' => w'.cell? ⟨w.heap.size, 0, none⟩ = some (.int .i64 n) ∧ w'.cell? ⟨w.heap.size, 1, none⟩ = some (.slice (some ⟨b, off, none⟩) O.length c') ∧ w'.cell? ⟨b, off, none⟩ = some (.int .i64 y)) (go_keep)
            ((first
              | (go_at_call 18; (refine (HWH.out w16.drew h16.out.drew.bring2.owReads.2.1).mono ?_); rintro e w17 ⟨v17, rfl, ho17, hb17⟩; have h17 := Lib.hid (h16.out.drew.newOl ho17 hb17).swap; obtain ⟨A17, c17, rfl, -, -, -, -⟩ := ho17.form; obtain ⟨_, _⟩ := HF.out _ h17.out.drop.drop.drop.drop.drop; have _ := HKC.out _ h17.out.bel; clear ho17 hb17)))
          have H17 := Lib.hid h17.out
          clear h16 h17 k0 k1 k2 H15 HKC HWH hbB
          go_wp2_with fail
          go_loopw [137] (fun i wr => ∃ (k : Nat) (V : List Int), k ≤ O.length ∧ i = .int .i64 k ∧ V.length = O.length ∧ St Zf [OlA ivl 3 (.slice A16 O.length c16) V, OlA ivl 3 (.slice A17 O.length c17) O, OwA lkc 7 46 (.slice A5 T.length c5) T, OwA lkc 7 46 (.slice A4 T.length c4) T, OwA lkc 7 46 (.slice A2 L.length c2) L, BlkA w.heap.size 31 #[.int .i64 n, .slice (some ⟨b, off, none⟩) O.length c']] w wr) (fun i _ => O.length - (intOf i).toNat)
          case atStart => exact ⟨0, O, Nat.zero_le _, rfl, rfl, H17.out⟩
          case round =>
            obtain ⟨k, V, hk, rfl, hVl, hst⟩ := hrel
            clear H17
            by_cases hlt : k < O.length
            · obtain ⟨g, hA, ⟨u0, hu0⟩, hfz, hst'⟩ := hst.storeOlL hVl hlt (-9) (ivl_ok (-9))
              subst hA
              have HST := Lib.hid hst'
              have HVL : Hid ((V.set k (-9)).length = O.length) := Lib.hid (by rw [List.length_set, hVl])
              clear hst hst' hVl
              go_wp2
              go_roundw
              case rel => exact ⟨k + 1, _, by omega, by go_num, HVL.out, HST.out⟩
              case measure => simp [intOf]; omega
            · obtain rfl : k = O.length := by omega
              have hrl := RL.litI wr 3 [-9, -9] #[.int .i64 (-9), .int .i64 (-9)] rfl (by decide)
              have HST := Lib.hid (hst.alloc (.cells #[.int .i64 (-9), .int .i64 (-9)] 3))
              have HRL := Lib.hid hrl
              have hby : (V.length + 2) * 8 ≤ 140737488355328 := by omega
              clear hst hrl hVl
              go_upto_region 32 with (at_builtin; refine wpList_append_list _ rfl _ _ 26 rfl 0 3 j0 _ 8 Try.underlying26 hj hy0 hy1 hy2 rfl _ V (by rfl) HST.out.ol _ _ _ [-9, -9] 2 rfl (by rfl) HRL.out hby (by omega) (Nat.zero_le _) ?_; intro v10 w10 hown10 hg10 hat10; have h10 := HST.out.grewOl hown10 hg10 hat10 (Nat.le_refl _); obtain ⟨A10, c10, rfl, -, -, -, -⟩ := hown10.form; have H10 := Lib.hid h10.drop; clear hown10 hg10 hat10 h10)
              clear HST HRL hby
              obtain ⟨k0, k1⟩ := HF.out _ H10.out.drop.drop.drop.drop
              go_wp2_with (first
                | (go_at_call 12; refine (sameInts_yes A17 (some ⟨b, off, none⟩) O.length c17 c' w10.heap.size w.heap.size O w10 H10.out.ol.reads.2.1 (H10.out.rl HRO.out (Nat.le_refl _)) rfl (by unfold maxLen; omega)).mono ?_; rintro e w11 ⟨rfl, n11, hw11⟩; have h11 := H10.out.drop.drewN n11; rw [← hw11] at h11; have H11 := Lib.hid h11; clear hw11 h11)
                | (go_at_call 15; (refine (sameLk_yes A4 A5 T.length c4 c5 w11.heap.size w11.heap.size T w11 H11.out.swap.owReads.2.1 H11.out.owReads.2.1 rfl (by omega)).mono ?_); rintro e w12 ⟨rfl, n12, hw12⟩; have h12 := H11.out.drewN n12; rw [← hw12] at h12; have H12 := Lib.hid h12.bel; clear hw12 h12))
              go_ret
              exact ⟨rfl, H12.out⟩

/-! ### THE ROW's STEP -/
theorem own : ownKnob Try.prog.godebug = none := by kernel_rfl
theorem laidOut : laidOutB Try.prog = true := by kernel_rfl

set_option maxRecDepth 100000 in
theorem contract (H : Type) (enc : TypeId × Value → H) (W : World) (base : Nat) (args : Array Value) (ds gs : List (DataW H)) (before : List MemPlace)
    (hval0 : ∀ (j : Nat) t v, Try.f9.params[j]? = some t → args[j]? = some v → Value.okWide Try.prog W .any base t v)
    (hW : DataW.Whole enc Try.prog Try.f9.params.toList Rows.linksOwnSpec.vars false W args.toList ds gs before)
    (hsz : (DataW.weightsEach Try.prog (Try.f9.params.toList ++ (OpenSpec.ofChange Rows.linksOwnSpec).bare.plain.varTypes Try.prog) (ds ++ gs)).all (· ≤ reachBytes) = true) :
    Calls Try.prog 9 args W fun e W' => ∃ v, e = .returned v ∧ Rows.linksOwnSpec.post enc Try.prog Try.f9 false true false false W args v W' := by
  have hval : ∀ (j : Nat) t v, Try.f9.params[j]? = some t → args[j]? = some v → Value.okWide Try.prog W .any base t v := hval0
  have hW' := hW
  obtain ⟨p, q, hA0, hV, rfl, hfz, hnd⟩ := hW
  have hA : DataW.TrodAll enc Try.prog W 0 (fun _ => true) true Try.f9.params.toList args.toList ds p := hA0
  rw [Try.params9] at hA hval
  obtain ⟨v0, vs0, d0, ds0, p0, q0, hargs, rfl, rfl, h0, r0⟩ := trodAll_cons hA
  obtain ⟨v1, vs1, d1, ds1, p1, q1, rfl, rfl, rfl, h1, r1⟩ := trodAll_cons r0
  obtain ⟨rfl, rfl, rfl⟩ := trodAll_nil r1
  obtain rfl : args = #[v0, v1] := by cases args; simp_all
  obtain ⟨rfl, rfl⟩ := trodVars_none hV
  have k0 := h0
  have lt0 : ∀ x ∈ p0, x.block < W.heap.size := by obtain ⟨m, hm⟩ := k0; exact DataW.trod_lt m _ _ _ hm
  have w0 := reach_at hsz (j := 0) rfl rfl
  have k1 := h1
  have lt1 : ∀ x ∈ p1, x.block < W.heap.size := by obtain ⟨m, hm⟩ := k1; exact DataW.trod_lt m _ _ _ hm
  have w1 := reach_at hsz (j := 1) rfl rfl
  clear hA0 hval0 hsz
  obtain ⟨A0, L0, c0, rfl, hx0⟩ := open_links (hval 0 _ v0 rfl rfl) w0 h0 lt0
  obtain ⟨n1, A1, O1, c1, rfl, hx1⟩ := open_chain (hval 1 _ v1 rfl rfl) w1 h1 lt1
  refine (walk W hx0 hx1).mono fun e W' ⟨he, bel⟩ => ?_
  subst he
  exact ⟨_, rfl, _, _, _, [], _, [], hW', trodAll_mk1 (shut_bool Try.underlying4 _), (trodAll_cons_mk (Below.trod laidOut (by kernel_rfl) (of_decide_eq_true (by kernel_rfl)) k0 bel lt0) (trodAll_cons_mk (Below.trod laidOut (by kernel_rfl) (of_decide_eq_true (by kernel_rfl)) k1 bel lt1) trodAll_mk0)), rfl, bel.frame _, fun h => by cases h⟩

set_option maxRecDepth 100000 in
theorem lifted (os : Os) (started : os.Started) (H : Type) (enc : TypeId × Value → H) :
    ReturnsInHanded {} Try.checked os 9 .any (Rows.linksOwnSpec.pre6 enc Try.prog Try.f9 Rows.linksOwnRow.domain false) (Rows.linksOwnSpec.post enc Try.prog Try.f9 false true false false) := by
  refine returnsInHanded_of_change_sized (C := Try.checked) own started (by kernel_rfl) Try.func9
    (ChangeSpec.witness6 (enc := enc) (C := Try.checked) false ⟨#[], #[.slice none 0 0, .agg #[.int .i64 0, .slice none 0 0]], []⟩ 8 (by kernel_rfl) (by kernel_rfl) (by kernel_rfl) (by kernel_rfl)) ?_
  intro W base args ds gs before hval hW _ hsz _
  exact contract H enc W base args ds gs before hval hW hsz

/-- THE STATEMENT -/
theorem proved : Rows.LinksOwnSaid :=
  OpenClaim.holds_of_wide 9 Try.f9 rfl rfl rfl rfl rfl rfl rfl ⟨rfl, rfl, rfl, rfl, rfl⟩ rfl rfl rfl rfl rfl (by kernel_rfl) Try.func9 (by kernel_rfl)
    (of_decide_eq_true (by kernel_rfl)) (by unfold Func.isWrapper; rw [if_neg (of_decide_eq_false (by kernel_rfl))]; exact ⟨rfl, rfl⟩)
    (fun os started H enc _ => lifted os started H enc)
end Go.Proofs.Ytpdaiiakdlngjaa.linksOwn
