/- A chain laid for one node leaves a chain of another node as it was, for any list and orders within the form's reach. -/
import Derived.Test.YtpdaiiakdlngjaaOpen
import Derived.Test.YtpdaiiakdlngjaaRows
import Derived.Test.YtpdaiiakdlngjaaLkSpeak
import Derived.Test.YtpdaiiakdlngjaaLkOpen
import Derived.Test.YtpdaiiakdlngjaaLkPure2
import Derived.Deep.QuietTactic
import Derived.BigQuiet
import Derived.Deep.RegionHeld3
import Derived.Deep.Cut
namespace Go.Proofs.Ytpdaiiakdlngjaa.linksApart
open Go.ChangeShapes Go.WideShapes Go.ChangeAt Go.RowKit
open Go.ChangeMaps (open_string shut_string)
set_option linter.unusedVariables false

set_option maxRecDepth 100000 in
set_option maxHeartbeats 1000000 in
theorem walk (w : World) {A : Option Addr} {L : List LkC} {c : Nat} (hx : RR lkc 7 w w.heap.size A L ∧ L.length * 56 ≤ 140737488351232) {n : Int} {A' : Option Addr} {O : List Int} {c' : Nat} (hy : RL ivl w w.heap.size A' O ∧ (∀ x ∈ O, inI x) ∧ O.length ≤ c' ∧ c' * 8 ≤ 140737488351232)
    {m : Int} {B' : Option Addr} {M : List Int} {d' : Nat} (hz : RL ivl w w.heap.size B' M ∧ (∀ x ∈ M, inI x) ∧ M.length ≤ d' ∧ d' * 8 ≤ 140737488351232) :
    Calls Try.prog 7 #[.slice A L.length c, .agg #[.int .i64 n, .slice A' O.length c'], .agg #[.int .i64 m, .slice B' M.length d']] w fun e w' => e = .returned (.bool true) ∧ Below w.heap.size w w' := by
  obtain ⟨hr, hl⟩ := hx
  obtain ⟨hr', hin, hoc, hcm⟩ := hy
  obtain ⟨hr2, hin2, hoc2, hcm2⟩ := hz
  obtain ⟨j0, hj, hy0, hy1, hy2⟩ := info_parts nint_info
  have hl2 : L.length * 56 ≤ 140737488355328 := by omega
  have hl3 : O.length ≤ 140737488355328 := by omega
  have hl4 : O.length * 8 ≤ 140737488355328 := by omega
  have hm3 : M.length ≤ 140737488355328 := by omega
  have hm4 : M.length * 8 ≤ 140737488355328 := by omega
  have HR := Lib.hid hr
  have HRO := Lib.hid hr'
  have HRM := Lib.hid hr2
  have HT0 := fun (A2 : Option Addr) (c2 : Nat) (A3 : Option Addr) (c3 : Nat) (W : World) (h : RR lkc 7 W W.heap.size A2 L) (h' : RL ivl W W.heap.size A3 O) => Thread_any A2 c2 W.heap.size L n A3 c3 W.heap.size O W h (Nat.le_refl _) hl2 h' (Nat.le_refl _) hl3 hin
  unfold NewT at HT0
  have hlaid := fun h : chk L n O = 0 => Laid.thr h
  have hunl := fun (h : chk L n O = 0) (i j : Nat) => chkP_unlike h (i := i) (j := j)
  have htl := thrK_len L n O O.length
  have hT1 : chk L n O = 0 → thrP L n O = thrK L n O O.length := fun h => by unfold thrP; rw [if_pos h]
  obtain ⟨E, hE⟩ : ∃ E, E = chk L n O := ⟨_, rfl⟩
  obtain ⟨T, hT⟩ : ∃ T, T = thrP L n O := ⟨_, rfl⟩
  rw [← hE, ← hT] at HT0
  rw [← hE] at hlaid hunl hT1
  rw [← hT] at hT1
  have HT20 := fun (A2 : Option Addr) (c2 : Nat) (A3 : Option Addr) (c3 : Nat) (W : World) (hTm : T.length * 56 ≤ 140737488355328) (h : RR lkc 7 W W.heap.size A2 T) (h' : RL ivl W W.heap.size A3 M) => Thread_any A2 c2 W.heap.size T m A3 c3 W.heap.size M W h (Nat.le_refl _) hTm h' (Nat.le_refl _) hm3 hin2
  unfold NewT at HT20
  have hapart : n ≠ m → E = 0 → chk T m M = 0 → Laid (thrP T m M) n O := fun hnm h0 h => by
    have : thrP T m M = thrK T m M M.length := by unfold thrP; rw [if_pos h]
    rw [this]
    have h2 := hlaid h0
    rw [← hT1 h0] at h2
    exact Laid.apart hnm h2 h
  have htl2 : chk T m M = 0 → (thrP T m M).length = T.length := fun h => by
    unfold thrP
    rw [if_pos h, thrK_len]
  obtain ⟨E2, hE2⟩ : ∃ E2, E2 = chk T m M := ⟨_, rfl⟩
  obtain ⟨T2, hT2⟩ : ∃ T2, T2 = thrP T m M := ⟨_, rfl⟩
  rw [← hE2, ← hT2] at HT20
  rw [← hE2, ← hT2] at hapart htl2
  have HTH := Lib.hid HT0
  have HTH2 := Lib.hid HT20
  have HUN := Lib.hid hunl
  have HTL := Lib.hid htl
  have HTL2 := Lib.hid htl2
  have HT1 := Lib.hid hT1
  have HAP := Lib.hid hapart
  have HF : Hid (∀ w', St Zf [BlkA (w.heap.size + 1) 31 #[.int .i64 m, .slice B' M.length d'], BlkA w.heap.size 31 #[.int .i64 n, .slice A' O.length c']] w w' → (w'.cell? ⟨w.heap.size, 0, none⟩ = some (.int .i64 n) ∧ w'.cell? ⟨w.heap.size, 1, none⟩ = some (.slice A' O.length c')) ∧ w'.cell? ⟨w.heap.size + 1, 0, none⟩ = some (.int .i64 m) ∧ w'.cell? ⟨w.heap.size + 1, 1, none⟩ = some (.slice B' M.length d')) :=
    Lib.hid fun w' h => ⟨⟨by rw [h.swap.blk.cell]; rfl, by rw [h.swap.blk.cell]; rfl⟩, by rw [h.blk.cell]; rfl, by rw [h.blk.cell]; rfl⟩
  clear hr hr' hr2 hin hin2 hoc hcm hoc2 hcm2 hl3 hm3 HT0 HT20 hlaid hunl htl htl2 hT1 hapart hE hT hE2 hT2
  go_enter Try.func7, Try.ntmps7
  go_upto_region 3 with (go_at_call 10; refine (lkSpeaks_any _).mono ?_; rintro e w1 ⟨rfl, hb1⟩)
  have h1 := (((St.start Zf w).newBlk 31 #[.int .i64 n, .slice A' O.length c']).newBlk 31 #[.int .i64 m, .slice B' M.length d']).below hb1
  have hsz : (w.alloc (.cells #[.int .i64 n, .slice A' O.length c'] 31)).heap.size = w.heap.size + 1 := Array.size_push _
  rw [hsz] at h1
  obtain ⟨⟨k0, k1⟩, k2, k3⟩ := HF.out _ h1
  have H1 := Lib.hid h1
  clear h1 hb1 hsz
  by_cases hnm : n = m
  · have f1 : (n == m) = true := by simp [hnm]
    clear hnm
    go_wp2
    go_ret
    exact ⟨rfl, H1.out.bel⟩
  have f1 : (n == m) = false := beq_eq_false_iff_ne.2 hnm
  have f1' : decide (n = m) = false := decide_eq_false hnm
  by_cases hO : O.length = 0
  · have f2 : ((O.length : Int) == 0) = true := by simp [hO]
    have f2' : decide ((O.length : Int) = 0) = true := by simp [hO]
    clear hnm hO
    go_wp2
    go_ret
    exact ⟨rfl, H1.out.bel⟩
  have f2 : ((O.length : Int) == 0) = false := beq_eq_false_iff_ne.2 (by omega)
  have f2' : decide ((O.length : Int) = 0) = false := decide_eq_false (by omega)
  have f3 : decide ((0 : Int) < (O.length : Int)) = true := decide_eq_true (by omega)
  have f3' : decide (0 < O.length) = true := decide_eq_true (by omega)
  have HNM := Lib.hid hnm
  have HO := Lib.hid hO
  clear hnm hO
  go_upto_region 5 with fail
  have HD0 := Lib.hid H1.out.drew
  have HD1 := Lib.hid (H1.out.drew.newNil ivl 3 rfl)
  go_region_held3 (fun w' => w'.cell? ⟨w.heap.size, 0, none⟩ = some (.int .i64 n) ∧ w'.cell? ⟨w.heap.size, 1, none⟩ = some (.slice A' O.length c')) (go_keep)
    ((first
      | (go_at_call 11; refine (copied_any A c w.heap.size L w1.drew (HD0.out.rr HR.out (Nat.le_refl _)) HD0.out.size hl2).mono ?_; rintro e w2 ⟨v2, rfl, ho2, hb2⟩; have h2 := Lib.hid (HD0.out.newOw ho2 hb2); obtain ⟨A2, c2, rfl, -, -, -⟩ := h2.out.owForm; have h2n := Lib.hid (h2.out.newNil ivl 3 rfl); obtain ⟨⟨_, _⟩, _, _⟩ := HF.out _ h2.out.drop; clear ho2 hb2 HD1)
      | (go_at_call 11; refine (copied_any A c w.heap.size L _ (HD1.out.rr HR.out (Nat.le_refl _)) HD1.out.size hl2).mono ?_; rintro e w2 ⟨v2, rfl, ho2, hb2⟩; have h2 := Lib.hid (HD1.out.newOw ho2 hb2); obtain ⟨A2, c2, rfl, -, -, -⟩ := h2.out.owForm; have h2n := Lib.hid h2.out.swap; obtain ⟨⟨_, _⟩, _, _⟩ := HF.out _ h2.out.drop.drop; clear ho2 hb2 HD0)
      | (refine step_append_list _ (by rfl) _ _ _ (by rfl) 0 3 j0 (.int .i64 0) 8 Try.underlying26 hj hy0 hy1 hy2 rfl _ [] (by rfl) h2n.out.ol A' c' w.heap.size O O.length rfl (by rfl) (h2n.out.rl HRO.out (Nat.le_refl _)) (by simpa using hl4) (by omega) (Nat.zero_le _) ?_; intro v3 w3 hown3 hg3 hat3; rw [List.nil_append] at hown3; have h3 := Lib.hid (h2n.out.grewOl hown3 hg3 hat3 (Nat.le_refl _)); obtain ⟨A3, c3, rfl, -, -, -, -⟩ := hown3.form; obtain ⟨⟨_, _⟩, _, _⟩ := HF.out _ h3.out.drop.drop; clear hown3 hg3 hat3)
      | (go_at_call 16; refine (HTH.out A2 c2 A3 c3 w3 h3.out.swap.owReads.2.1 h3.out.ol.reads.2.1).mono ?_; rintro e w4 ⟨v4, rfl, ho4, hb4⟩; have h4 := Lib.hid (h3.out.drop.drop.newOw ho4 hb4); obtain ⟨A4, c4, rfl, -, -, -⟩ := h4.out.owForm; obtain ⟨⟨_, _⟩, _, _⟩ := HF.out _ h4.out.drop; clear ho4 hb4)))
  all_goals
    clear h2 h2n h3
    by_cases hE : E = 0
    · subst hE
      have e0 : ((0 : Int) != 0) = false := by decide
      have hTl : T.length = L.length := by rw [HT1.out rfl]; exact HTL.out
      have hTm : T.length * 56 ≤ 140737488355328 := by rw [hTl]; exact hl2
      have HD4 := Lib.hid (h4.out.newNil ivl 3 rfl).drew
      have HTT := Lib.hid hTl
      clear hTl
      go_upto_region 8 with fail
      go_region_held3 (fun w' => w'.cell? ⟨w.heap.size + 1, 0, none⟩ = some (.int .i64 m) ∧ w'.cell? ⟨w.heap.size + 1, 1, none⟩ = some (.slice B' M.length d')) (go_keep)
        ((first
          | (refine step_append_list _ (by rfl) _ _ _ (by rfl) 0 3 j0 (.int .i64 0) 8 Try.underlying26 hj hy0 hy1 hy2 rfl _ [] (by rfl) HD4.out.ol B' d' w.heap.size M M.length rfl (by rfl) (HD4.out.rl HRM.out (Nat.le_refl _)) (by simpa using hm4) (by omega) (Nat.zero_le _) ?_; intro v5 w5 hown5 hg5 hat5; rw [List.nil_append] at hown5; have h5 := Lib.hid (HD4.out.grewOl hown5 hg5 hat5 (Nat.le_refl _)); obtain ⟨A5, c5, rfl, -, -, -, -⟩ := hown5.form; obtain ⟨⟨_, _⟩, _, _⟩ := HF.out _ h5.out.drop.drop; clear hown5 hg5 hat5)
          | (go_at_call 16; refine (HTH2.out A4 c4 A5 c5 w5 hTm h5.out.swap.owReads.2.1 h5.out.ol.reads.2.1).mono ?_; rintro e w6 ⟨v6, rfl, ho6, hb6⟩; have h6 := Lib.hid (h5.out.drop.drop.newOw ho6 hb6); obtain ⟨A6, c6, rfl, -, -, -⟩ := h6.out.owForm; obtain ⟨⟨_, _⟩, _, _⟩ := HF.out _ h6.out.drop; clear ho6 hb6)))
      clear h5
      by_cases hE2 : E2 = 0
      · subst hE2
        have hlay := HAP.out HNM.out (by trivial) (by trivial)
        have hlen2 := HTL2.out (by trivial)
        have hun := fun i j (a : i < j) (b : j < O.length) => HUN.out (by trivial) i j a b
        have hwl := walkP_laid hlay hun
        have hpos : 0 < O.length := by have := HO.out; omega
        rw [show atI O 0 = nthI O 0 from atI_in (k := 0) hpos] at hwl
        obtain ⟨b, off, hA, -, hcs⟩ := (h6.out.rl HRO.out (Nat.le_refl _)).allI hpos
        have hbB := hcs 0 hpos
        have HKC : Hid (∀ w', St Zf [OwA lkc 7 46 (.slice A6 T2.length c6) T2, BlkA (w.heap.size + 1) 31 #[.int .i64 m, .slice B' M.length d'], BlkA w.heap.size 31 #[.int .i64 n, .slice A' O.length c']] w w' → w'.cell? ⟨b, off, none⟩ = some (.int .i64 (nthI O 0))) := Lib.hid fun w' h => by
          obtain ⟨b2, off2, hA2, -, hcs2⟩ := (h.rl HRO.out (Nat.le_refl _)).allI hpos
          rw [hA] at hA2
          simp only [Option.some.injEq, Addr.mk.injEq, and_true] at hA2
          obtain ⟨rfl, rfl⟩ := hA2
          exact hcs2 0 hpos
        obtain ⟨y, hy⟩ : ∃ y, y = nthI O 0 := ⟨_, rfl⟩
        rw [← hy] at hwl hbB HKC
        have hw := Walk_any A6 c6 w6.drew.heap.size T2 n y w6.drew h6.out.drew.owReads.2.1 (Nat.le_refl _) (by rw [hlen2]; exact hTm)
        rw [hwl] at hw
        have HWK := Lib.hid hw
        have HAA := Lib.hid hA
        clear hlay hlen2 hun hwl hpos hcs hy hw
        subst hA
        have hbB0 : w6.cell? ⟨b, off, none⟩ = some (.int .i64 y) := hbB
        have p0 : (0 : Int) < (O.length : Int) := by have := HO.out; omega
        have p1 : 0 < O.length := by omega
        go_upto_region 11 with fail
        go_region_held3 (fun w' => w'.cell? ⟨w.heap.size, 0, none⟩ = some (.int .i64 n) ∧ w'.cell? ⟨w.heap.size, 1, none⟩ = some (.slice (some ⟨b, off, none⟩) O.length c') ∧ w'.cell? ⟨b, off, none⟩ = some (.int .i64 y)) (go_keep)
          ((first
            | (go_at_call 18; refine (HWK.out).mono ?_; rintro e w7 ⟨v7, rfl, ho7, hb7⟩; have h7 := Lib.hid (h6.out.drew.newOl ho7 hb7); obtain ⟨A7, c7, rfl, -, -, -, -⟩ := ho7.form; obtain ⟨⟨_, _⟩, _, _⟩ := HF.out _ h7.out.drop.drop; have _ := HKC.out _ h7.out.drop; clear ho7 hb7)))
        go_wp2_with (first
          | (go_at_call 12; refine (sameInts_yes A7 (some ⟨b, off, none⟩) O.length c7 c' w7.heap.size w.heap.size O w7 h7.out.ol.reads.2.1 (h7.out.rl HRO.out (Nat.le_refl _)) rfl (by unfold maxLen; omega)).mono ?_; rintro e w8 ⟨rfl, n8, hw8⟩; have h8 := h7.out.drewN n8; rw [← hw8] at h8; have H8 := Lib.hid h8.bel; clear hw8 h8))
        go_ret
        exact ⟨rfl, H8.out⟩
      · have e2 : (E2 != 0) = true := by simp [hE2]
        clear hE2
        go_wp2
        go_ret
        exact ⟨rfl, h6.out.bel⟩
    · have e0 : (E != 0) = true := by simp [hE]
      clear hE
      go_wp2
      go_ret
      exact ⟨rfl, h4.out.bel⟩

/-! ### THE ROW's STEP -/
theorem own : ownKnob Try.prog.godebug = none := by kernel_rfl
theorem laidOut : laidOutB Try.prog = true := by kernel_rfl

set_option maxRecDepth 100000 in
theorem contract (H : Type) (enc : TypeId × Value → H) (W : World) (base : Nat) (args : Array Value) (ds gs : List (DataW H)) (before : List MemPlace)
    (hval0 : ∀ (j : Nat) t v, Try.f7.params[j]? = some t → args[j]? = some v → Value.okWide Try.prog W .any base t v)
    (hW : DataW.Whole enc Try.prog Try.f7.params.toList Rows.linksApartSpec.vars false W args.toList ds gs before)
    (hsz : (DataW.weightsEach Try.prog (Try.f7.params.toList ++ (OpenSpec.ofChange Rows.linksApartSpec).bare.plain.varTypes Try.prog) (ds ++ gs)).all (· ≤ reachBytes) = true) :
    Calls Try.prog 7 args W fun e W' => ∃ v, e = .returned v ∧ Rows.linksApartSpec.post enc Try.prog Try.f7 false true false false W args v W' := by
  have hval : ∀ (j : Nat) t v, Try.f7.params[j]? = some t → args[j]? = some v → Value.okWide Try.prog W .any base t v := hval0
  have hW' := hW
  obtain ⟨p, q, hA0, hV, rfl, hfz, hnd⟩ := hW
  have hA : DataW.TrodAll enc Try.prog W 0 (fun _ => true) true Try.f7.params.toList args.toList ds p := hA0
  rw [Try.params7] at hA hval
  obtain ⟨v0, vs0, d0, ds0, p0, q0, hargs, rfl, rfl, h0, r0⟩ := trodAll_cons hA
  obtain ⟨v1, vs1, d1, ds1, p1, q1, rfl, rfl, rfl, h1, r1⟩ := trodAll_cons r0
  obtain ⟨v2, vs2, d2, ds2, p2, q2, rfl, rfl, rfl, h2, r2⟩ := trodAll_cons r1
  obtain ⟨rfl, rfl, rfl⟩ := trodAll_nil r2
  obtain rfl : args = #[v0, v1, v2] := by cases args; simp_all
  obtain ⟨rfl, rfl⟩ := trodVars_none hV
  have k0 := h0
  have lt0 : ∀ x ∈ p0, x.block < W.heap.size := by obtain ⟨m, hm⟩ := k0; exact DataW.trod_lt m _ _ _ hm
  have w0 := reach_at hsz (j := 0) rfl rfl
  have k1 := h1
  have lt1 : ∀ x ∈ p1, x.block < W.heap.size := by obtain ⟨m, hm⟩ := k1; exact DataW.trod_lt m _ _ _ hm
  have w1 := reach_at hsz (j := 1) rfl rfl
  have k2 := h2
  have lt2 : ∀ x ∈ p2, x.block < W.heap.size := by obtain ⟨m, hm⟩ := k2; exact DataW.trod_lt m _ _ _ hm
  have w2 := reach_at hsz (j := 2) rfl rfl
  clear hA0 hval0 hsz
  obtain ⟨A0, L0, c0, rfl, hx0⟩ := open_links (hval 0 _ v0 rfl rfl) w0 h0 lt0
  obtain ⟨n1, A1, O1, c1, rfl, hx1⟩ := open_chain (hval 1 _ v1 rfl rfl) w1 h1 lt1
  obtain ⟨n2, A2, O2, c2, rfl, hx2⟩ := open_chain (hval 2 _ v2 rfl rfl) w2 h2 lt2
  refine (walk W hx0 hx1 hx2).mono fun e W' ⟨he, bel⟩ => ?_
  subst he
  exact ⟨_, rfl, _, _, _, [], _, [], hW', trodAll_mk1 (shut_bool Try.underlying4 _), (trodAll_cons_mk (Below.trod laidOut (by kernel_rfl) (of_decide_eq_true (by kernel_rfl)) k0 bel lt0) (trodAll_cons_mk (Below.trod laidOut (by kernel_rfl) (of_decide_eq_true (by kernel_rfl)) k1 bel lt1) (trodAll_cons_mk (Below.trod laidOut (by kernel_rfl) (of_decide_eq_true (by kernel_rfl)) k2 bel lt2) trodAll_mk0))), rfl, bel.frame _, fun h => by cases h⟩

set_option maxRecDepth 100000 in
theorem lifted (os : Os) (started : os.Started) (H : Type) (enc : TypeId × Value → H) :
    ReturnsInHanded {} Try.checked os 7 .any (Rows.linksApartSpec.pre6 enc Try.prog Try.f7 Rows.linksApartRow.domain false) (Rows.linksApartSpec.post enc Try.prog Try.f7 false true false false) := by
  refine returnsInHanded_of_change_sized (C := Try.checked) own started (by kernel_rfl) Try.func7
    (ChangeSpec.witness6 (enc := enc) (C := Try.checked) false ⟨#[], #[.slice none 0 0, .agg #[.int .i64 0, .slice none 0 0], .agg #[.int .i64 0, .slice none 0 0]], []⟩ 8 (by kernel_rfl) (by kernel_rfl) (by kernel_rfl) (by kernel_rfl)) ?_
  intro W base args ds gs before hval hW _ hsz _
  exact contract H enc W base args ds gs before hval hW hsz

/-- THE STATEMENT -/
theorem proved : Rows.LinksApartSaid :=
  OpenClaim.holds_of_wide 7 Try.f7 rfl rfl rfl rfl rfl rfl rfl ⟨rfl, rfl, rfl, rfl, rfl⟩ rfl rfl rfl rfl rfl (by kernel_rfl) Try.func7 (by kernel_rfl)
    (of_decide_eq_true (by kernel_rfl)) (by unfold Func.isWrapper; rw [if_neg (of_decide_eq_false (by kernel_rfl))]; exact ⟨rfl, rfl⟩)
    (fun os started H enc _ => lifted os started H enc)
end Go.Proofs.Ytpdaiiakdlngjaa.linksApart
