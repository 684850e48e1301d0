/- Values are told in new memory: what is written into one answer, and put behind its lists, alters no other answer, for every value. The library's tables and errors, and the program's own table of the forms' beginnings, stand as the program's text lays them (the card ties them). -/
import Derived.Test.YthfoffcfbfmajaaGreatDoorOpen
import Derived.Test.YthfoffcfbfmajaaGreatDoorCards
import Derived.Test.YthfoffcfbfmajaaGreatDoorTie
import Derived.Deep.DeepHandedRow
import Derived.Lib.LaidTab
import Derived.Test.YthfoffcfbfmajaaGreatDoorCeRefPA
import Derived.Test.YthfoffcfbfmajaaGreatDoorCeStore
import Derived.Test.YthfoffcfbfmajaaGreatDoorCeSpeak
import Derived.Test.YthfoffcfbfmajaaGreatDoorCeOpen
import Derived.Test.YthfoffcfbfmajaaGreatDoorCeLaid
import Derived.Test.YthfoffcfbfmajaaGreatDoorValSameA
import Derived.Test.YthfoffcfbfmajaaGreatDoorValRefA
import Derived.Test.YthfoffcfbfmajaaGreatDoorValCopy
namespace Go.Proofs.YthfoffcfbfmajaaGreatDoor.cellOwn
open Go.ChangeShapes Go.WideShapes Go.ChangeAt Go.RowKit
open Go.ChangeMaps (open_string shut_string)
set_option linter.unusedVariables false
set_option linter.unusedSimpArgs false

set_option maxRecDepth 100000 in
set_option maxHeartbeats 4000000 in
theorem walk (w : World) (hW : CeW w) {v : Vv} {A : Option Addr} {c : Nat} {A' : Option Addr} {c' : Nat} (hx : VR w w.heap.size v (vagg v A c A' c')) :
    Calls Tryz.prog 8 #[vagg v A c A' c'] w fun e w' => e = .returned (.bool true) ∧ Below w.heap.size w w' := by
  have hok := hx.ok
  have HSP : Hid (∀ w', Below w.heap.size w w' → Calls Tryz.prog 9 #[] w' fun e w2 => e = .returned (.bool true) ∧ Below w'.heap.size w' w2) := Lib.hid fun w' hb => speaks22_any w' (hW.below hb (Nat.le_refl _))
  have HRP := Lib.hid fun w' h1 h2 => refPrint_any v (vagg v A c A' c') w.heap.size w' h1 h2
  have HX := Lib.hid hx
  unfold RfP at HRP
  by_cases hc : chk v = 0
  case neg =>
    rw [printV_no hc] at HRP
    obtain ⟨E, hE⟩ : ∃ E, E = chk v := ⟨_, rfl⟩
    rw [← hE] at HRP hc
    have hne : (E != 0) = true := by simpa using hc
    have HRP2 : Hid (∀ w', VR w' w.heap.size v (vagg v A c A' c') → w.heap.size ≤ w'.heap.size → Calls Tryz.prog 12 #[vagg v A c A' c'] w' fun e w2 => e = .returned (.tuple #[.string ⟨#[]⟩, .int .i64 E]) ∧ Below w'.heap.size w' w2) := HRP
    obtain ⟨k, n, s, ns, ts⟩ := v
    unfold vagg at HRP2 HX ⊢
    simp only at HRP2 HX ⊢
    clear hx hW hok hc hE HRP
    go_enter Tryz.func8, Tryz.ntmps8
    go_wp2_with fail
    obtain ⟨wo, hwo⟩ : ∃ x, x = w.alloc (.cells #[.int .i64 k, .int .i64 n, .string s, .slice A ns.length c, .slice A' ts.length c'] 25) := ⟨_, rfl⟩
    rw [← hwo]
    have HBo : Hid (Blk wo w.heap.size 25 #[.int .i64 k, .int .i64 n, .string s, .slice A ns.length c, .slice A' ts.length c']) := Lib.hid (by rw [hwo]; exact Blk.new _ _ _)
    have HB0 : Hid (Below w.heap.size w wo) := Lib.hid (by rw [hwo]; exact (Below.refl w.heap.size w).alloc (Nat.le_refl _) _)
    clear hwo
    refine (HSP.out wo HB0.out).mono ?_
    rintro e w1 ⟨rfl, b1⟩
    have HB1 := Lib.hid (HB0.out.trans (b1.mono HB0.out.size))
    obtain ⟨x0, x1, x2, x3, x4⟩ := box_cells (HBo.out.below b1 HBo.out.lt)
    clear b1
    go_wp2_with fail
    refine (HRP2.out w1 (HX.out.below HB1.out) HB1.out.size).mono ?_
    rintro e w2 ⟨rfl, b2⟩
    have HB2 := Lib.hid (HB1.out.trans (b2.mono HB1.out.size))
    clear b2
    go_wp2
    go_ret
    exact ⟨rfl, HB2.out⟩
  rw [printV_ok hc] at HRP
  have HPA : Hid (∀ w', Below w.heap.size w w' → Calls Tryz.prog 14 #[.string (mkS (begB v.k ++ fmtV v))] w' (NewP (v, 0) w')) := Lib.hid fun w' hb => by
    have hl := fmtV_len hok hc
    have hb4 := begB_len v.k
    have h := Parse_any (begB v.k ++ fmtV v) w' (hW.below hb (Nat.le_refl _)) (by rw [List.length_append]; omega)
    rw [parseV_back hok hc] at h
    exact h
  have HRS := Lib.hid fun w' y B' h1 h2 h3 => refSame_any v v y (vagg v A c A' c') B' w' h1 h2 h3
  rw [sameV_self] at HRS
  unfold Says at HRS
  unfold NewP at HPA
  obtain ⟨S, hS⟩ : ∃ S, S = mkS (begB v.k ++ fmtV v) := ⟨_, rfl⟩
  rw [← hS] at HPA
  simp only [← hS] at HRP
  have HOK := Lib.hid hok
  obtain ⟨-, -, hll, -⟩ := el_of hc
  obtain ⟨j0, hj, hy0, hy1, hy2⟩ := info_parts i64_info
  obtain ⟨i0, hi, hz0, hz1, hz2⟩ := info_parts str_info
  obtain ⟨k, n, s, ns, ts⟩ := v
  unfold vagg at HRP HPA HRS HX ⊢
  simp only at HRP HPA HRS HX HOK hll ⊢
  have hnl : ns.length ≤ 40 := by omega
  have htl : ts.length ≤ 40 := by omega
  clear hS hc hx hok hW hll
  go_enter Tryz.func8, Tryz.ntmps8
  go_wp2_with fail
  obtain ⟨wo, hwo⟩ : ∃ x, x = w.alloc (.cells #[.int .i64 k, .int .i64 n, .string s, .slice A ns.length c, .slice A' ts.length c'] 25) := ⟨_, rfl⟩
  rw [← hwo]
  have HS0 : Hid (St Zf [BlkA w.heap.size 25 #[.int .i64 k, .int .i64 n, .string s, .slice A ns.length c, .slice A' ts.length c']] w wo) := Lib.hid (by rw [hwo]; exact (St.start Zf w).newBlk _ _)
  clear hwo
  refine (HSP.out wo HS0.out.bel).mono ?_
  rintro e w1 ⟨rfl, b1⟩
  have HS1 := Lib.hid (HS0.out.below b1)
  obtain ⟨⟨x0, x1, x2, x3, x4⟩, -, -⟩ := blk_facts HS1.out
  clear b1 HSP HS0
  go_wp2_with fail
  refine (HRP.out w1 (HX.out.below HS1.out.bel) HS1.out.bel.size).mono ?_
  rintro e w2 ⟨rfl, b2⟩
  have HS2 := Lib.hid (HS1.out.below b2)
  clear b2 HRP HS1 x0 x1 x2 x3 x4
  go_wp2_with fail
  refine (HPA.out w2 HS2.out.bel).mono ?_
  rintro e w3 ⟨D, d, D', d', rfl, h3⟩
  have HS3' := St.addStM HS2.out h3
  simp only [List.cons_append, List.nil_append] at HS3'
  have HS3 := Lib.hid (HS3'.newBlk 25 #[.int .i64 k, .int .i64 n, .string s, .slice D ns.length d, .slice D' ts.length d'])
  clear h3 HS3' HS2
  go_wp2_with fail
  obtain ⟨pa, hpa⟩ : ∃ p, p = w3.heap.size := ⟨_, rfl⟩
  obtain ⟨wa, hwa⟩ : ∃ x, x = w3.alloc (.cells #[.int .i64 k, .int .i64 n, .string s, .slice D ns.length d, .slice D' ts.length d'] 25) := ⟨_, rfl⟩
  rw [← hwa] at HS3 ⊢
  rw [← hpa] at HS3 ⊢
  clear hwa hpa
  refine (HPA.out wa HS3.out.bel).mono ?_
  rintro e w4 ⟨G, g, G', g', rfl, h4⟩
  have HS4' := St.addStM HS3.out h4
  simp only [List.cons_append, List.nil_append] at HS4'
  have HS4 := Lib.hid (HS4'.newBlk 25 #[.int .i64 k, .int .i64 n, .string s, .slice G ns.length g, .slice G' ts.length g'])
  clear h4 HS4' HS3 HPA
  obtain ⟨⟨q0, q1, q2, q3, q4⟩, -, -⟩ := blk_facts HS4.out.bring3
  go_wp2_with fail
  obtain ⟨pb, hpb⟩ : ∃ p, p = w4.heap.size := ⟨_, rfl⟩
  obtain ⟨wb, hwb⟩ : ∃ x, x = w4.alloc (.cells #[.int .i64 k, .int .i64 n, .string s, .slice G ns.length g, .slice G' ts.length g'] 25) := ⟨_, rfl⟩
  rw [← hwb] at HS4 q0 q1 q2 q3 q4 ⊢
  rw [← hpb] at HS4 ⊢
  clear hwb hpb
  have HS5 : Hid (St Zf [OlA ivl 2 (.slice D ns.length d) (ns), OlA svl 9 (.slice D' ts.length d') (ts), BlkA pa 25 #[.int .i64 k, .int .i64 n, .string s, .slice D ns.length d, .slice D' ts.length d'], OlA ivl 2 (.slice G ns.length g) ns, OlA svl 9 (.slice G' ts.length g') ts, BlkA pb 25 #[.int .i64 k, .int .i64 n, .string s, .slice G ns.length g, .slice G' ts.length g'], BlkA w.heap.size 25 #[.int .i64 k, .int .i64 n, .string s, .slice A ns.length c, .slice A' ts.length c']] w wb) := Lib.hid HS4.out.bring2.bring2.bring3.bring5.bring5
  clear HS4 q0 q1 q2 q3 q4
  obtain ⟨⟨p0, p1, p2, p3, p4⟩, -, -⟩ := blk_facts HS5.out.bring2
  go_wp2
  go_loopw [33] (fun i wr => ∃ (j : Nat) (X : List Int), j ≤ ns.length ∧ i = .int .i64 j ∧ X.length = ns.length ∧ Hid (St Zf [OlA ivl 2 (.slice D ns.length d) (X), OlA svl 9 (.slice D' ts.length d') (ts), BlkA pa 25 #[.int .i64 k, .int .i64 n, .string s, .slice D ns.length d, .slice D' ts.length d'], OlA ivl 2 (.slice G ns.length g) ns, OlA svl 9 (.slice G' ts.length g') ts, BlkA pb 25 #[.int .i64 k, .int .i64 n, .string s, .slice G ns.length g, .slice G' ts.length g'], BlkA w.heap.size 25 #[.int .i64 k, .int .i64 n, .string s, .slice A ns.length c, .slice A' ts.length c']] w wr)) (fun i _ => ns.length - (intOf i).toNat)
  case atStart => exact ⟨0, ns, Nat.zero_le _, rfl, rfl, HS5⟩
  case round =>
    obtain ⟨j, X, hj2, rfl, hXl, HS⟩ := hrel
    clear HS5 p0 p1 p2 p3 p4
    obtain ⟨⟨p0, p1, p2, p3, p4⟩, -, -⟩ := blk_facts HS.out.bring2
    by_cases hlt : j < ns.length
    · obtain ⟨g1, rfl, ⟨u0, hcell⟩, hfz, hst⟩ := St.storeOlC HS.out hXl hlt (-9) (ivl_ok _)
      have HS2 := Lib.hid hst
      have hjl : (j : Int) < (ns.length : Int) := by omega
      clear hst
      go_wp2
      go_roundw
      case rel => exact ⟨j + 1, X.set j (-9), by omega, by go_num, by rw [List.length_set]; exact hXl, HS2⟩
      case measure => simp [intOf]; omega
    · go_wp2
      go_loopw [44] (fun i wq => ∃ (q : Nat) (Y : List ByteArray), q ≤ ts.length ∧ i = .int .i64 q ∧ Y.length = ts.length ∧ Hid (St Zf [OlA ivl 2 (.slice D ns.length d) (X), OlA svl 9 (.slice D' ts.length d') (Y), BlkA pa 25 #[.int .i64 k, .int .i64 n, .string s, .slice D ns.length d, .slice D' ts.length d'], OlA ivl 2 (.slice G ns.length g) ns, OlA svl 9 (.slice G' ts.length g') ts, BlkA pb 25 #[.int .i64 k, .int .i64 n, .string s, .slice G ns.length g, .slice G' ts.length g'], BlkA w.heap.size 25 #[.int .i64 k, .int .i64 n, .string s, .slice A ns.length c, .slice A' ts.length c']] w wq)) (fun i _ => ts.length - (intOf i).toNat)
      case atStart => exact ⟨0, ts, Nat.zero_le _, rfl, rfl, HS⟩
      case round =>
        obtain ⟨q, Y, hq, rfl, hYl, HT⟩ := hrel
        clear HS p0 p1 p2 p3 p4
        obtain ⟨⟨p0, p1, p2, p3, p4⟩, pf, pl⟩ := blk_facts HT.out.bring2
        by_cases hqt : q < ts.length
        · obtain ⟨g1, rfl, ⟨u0, hcell⟩, hfz, hst⟩ := St.storeOlC HT.out.swap hYl hqt ⟨#[42]⟩ (svl_ok _)
          have hst2 : St Zf [OlA ivl 2 (.slice D ns.length d) (X), OlA svl 9 (.slice (some ⟨g1, 0, none⟩) ts.length d') (Y.set q ⟨#[42]⟩), BlkA pa 25 #[.int .i64 k, .int .i64 n, .string s, .slice D ns.length d, .slice (some ⟨g1, 0, none⟩) ts.length d'], OlA ivl 2 (.slice G ns.length g) ns, OlA svl 9 (.slice G' ts.length g') ts, BlkA pb 25 #[.int .i64 k, .int .i64 n, .string s, .slice G ns.length g, .slice G' ts.length g'], BlkA w.heap.size 25 #[.int .i64 k, .int .i64 n, .string s, .slice A ns.length c, .slice A' ts.length c']] w (wr.setCell ⟨g1, q, none⟩ (.string ⟨#[42]⟩)) := St.swap hst
          have HS2 := Lib.hid hst2
          have hql : (q : Int) < (ts.length : Int) := by omega
          clear hst hst2
          go_wp2
          go_roundw
          case rel => exact ⟨q + 1, Y.set q ⟨#[42]⟩, by omega, by go_num, by rw [List.length_set]; exact hYl, HS2⟩
          case measure => simp [intOf]; omega
        · have HST := Lib.hid (HT.out.alloc (.cells #[.int .i64 (-9), .int .i64 (-9)] 2))
          have HRL := Lib.hid (RL.litC wr 2 [-9, -9] #[.int .i64 (-9), .int .i64 (-9)] rfl (fun x _ => ivl_ok x) (by decide))
          have hby : (X.length + 2) * 8 ≤ 140737488355328 := by omega
          have hby2 : (Y.length + 2) * 16 ≤ 140737488355328 := by omega
          have PF3 := pf 3
          have HT0 := HT
          clear HT
          have hne1 : pa ≠ pb := (St.blk_neC (St.bring5 (St.bring2 HT0.out)))
          have hne2 : pa ≠ w.heap.size := (St.blk_neC (St.bring6 (St.bring2 HT0.out)))
          have hne3 := hne1.symm
          have hne4 := hne2.symm
          clear HT0
          go_wp2_with (first
            | (at_builtin; refine wpList_append_list _ rfl _ _ 22 rfl 0 2 j0 _ 8 Tryz.underlying22 hj hy0 hy1 hy2 rfl _ X (by rfl) HST.out.ol _ _ _ [-9, -9] 2 rfl (by rfl) HRL.out hby (by omega) (Nat.zero_le _) ?_; intro v10 w10 hown10 hg10 hat10; have h10 := HST.out.grewOl hown10 hg10 hat10 (Nat.le_refl _); obtain ⟨A10, c10, rfl, -, -, -, -⟩ := hown10.form; obtain ⟨⟨p0, p1, p2, p3, p4⟩, pf, pl⟩ := blk_facts h10.bring2; have PF3 := pf 3; have PF4 := pf 4; have h11 := (h10.drop.swap.setBlk 3 (.slice A10 (ns.length + 2) c10)).swap; simp only [List.setIfInBounds_toArray, List.set_cons_zero, List.set_cons_succ] at h11; have HST2 := Lib.hid (h11.alloc (.cells #[.string ⟨#[42]⟩, .string ⟨#[42]⟩] 9)); have hrl2 := RL.litC (w10.setCell ⟨pa, 3, none⟩ (.slice A10 (ns.length + 2) c10)) 9 [⟨#[42]⟩, ⟨#[42]⟩] #[.string ⟨#[42]⟩, .string ⟨#[42]⟩] rfl (fun x _ => svl_ok x) (by decide); rw [show (w10.setCell ⟨pa, 3, none⟩ (.slice A10 (ns.length + 2) c10)).heap.size = w10.heap.size from by simp] at hrl2; have HRL2 := Lib.hid hrl2; clear hown10 hg10 hat10 h10 h11 hrl2 HST HRL hby)
            | (at_builtin; refine wpList_append_list _ rfl _ _ 23 rfl 0 9 i0 _ 16 Tryz.underlying23 hi hz0 hz1 hz2 rfl _ Y (by rfl) HST2.out.ol _ _ _ [⟨#[42]⟩, ⟨#[42]⟩] 2 rfl (by rfl) HRL2.out hby2 (by omega) (Nat.zero_le _) ?_; intro v12 w12 hown12 hg12 hat12; have h12 := HST2.out.grewOl hown12 hg12 hat12 (Nat.le_refl _); obtain ⟨A12, c12, rfl, -, -, -, -⟩ := hown12.form; obtain ⟨⟨p0, p1, p2, p3, p4⟩, pf, pl⟩ := blk_facts h12.swap; have PF3 := pf 3; have PF4 := pf 4; obtain ⟨⟨y0, y1, y2, y3, y4⟩, -, -⟩ := blk_facts h12.bring4; obtain ⟨⟨x0, x1, x2, x3, x4⟩, -, -⟩ := blk_facts h12.bring5; have H13 := Lib.hid (h12.drop.setBlk 4 (.slice A12 (ts.length + 2) c12)); clear hown12 hg12 hat12 h12 HST2 HRL2 hby2))
          have hbel := H13.out.bel
          have hvr := vr_of (v := ⟨k, n, s, ns, ts⟩) H13.out.drop HOK.out
          refine (HRS.out _ _ _ hvr ((HX.out.below hbel).more hbel.size) (Nat.le_refl _)).mono ?_
          rintro e w14 ⟨rfl, b14⟩
          have HB14 := Lib.hid (hbel.trans (b14.mono hbel.size))
          clear b14 hbel hvr
          go_wp2
          go_ret
          exact ⟨rfl, HB14.out⟩

/-! ### THE ROW's STEP -/
theorem own : ownKnob Tryz.prog.godebug = none := by kernel_rfl
theorem laidOut : laidOutB Tryz.prog = true := by kernel_rfl

set_option maxRecDepth 100000 in
theorem contract (H : Type) (enc : TypeId × Value → H) (W : World) (base : Nat) (args : Array Value) (ds gs : List (DataW H)) (before : List MemPlace)
    (hval0 : ∀ (j : Nat) t v, Tryz.f8.params[j]? = some t → args[j]? = some v → Value.okWide Tryz.prog W .any base t v)
    (hW : DataW.Whole enc Tryz.prog Tryz.f8.params.toList Rows.cellOwnSpec.vars false W args.toList ds gs before)
    (hsz : (DataW.weightsEach Tryz.prog (Tryz.f8.params.toList ++ (OpenSpec.ofChange Rows.cellOwnSpec).bare.plain.varTypes Tryz.prog) (ds ++ gs)).all (· ≤ reachBytes) = true) (hL : laidMetH Tryz.prog Rows.cellOwnRow.laid W) (hSh : W.ShapedOpen Tryz.prog) :
    Calls Tryz.prog 8 args W fun e W' => ∃ v, e = .returned v ∧ Rows.cellOwnSpec.post enc Tryz.prog Tryz.f8 false true false false W args v W' := by
  have hval : ∀ (j : Nat) t v, Tryz.f8.params[j]? = some t → args[j]? = some v → Value.okWide Tryz.prog W .any base t v := hval0
  have hW' := hW
  obtain ⟨p, q, hA0, hV, rfl, hfz, hnd⟩ := hW
  have hA : DataW.TrodAll enc Tryz.prog W 0 (fun _ => true) true Tryz.f8.params.toList args.toList ds p := hA0
  rw [Tryz.params8] at hA hval
  obtain ⟨v0, vs0, d0, ds0, p0, q0, hargs, rfl, rfl, h0, r0⟩ := trodAll_cons hA
  obtain ⟨rfl, rfl, rfl⟩ := trodAll_nil r0
  obtain rfl : args = #[v0] := by cases args; simp_all
  obtain ⟨rfl, rfl⟩ := trodVars_none hV
  have k0 := h0
  have lt0 : ∀ x ∈ p0, x.block < W.heap.size := by obtain ⟨m, hm⟩ := k0; exact DataW.trod_lt m _ _ _ hm
  have w0 := reach_at hsz (j := 0) rfl rfl
  clear hA0 hval0 hsz
  obtain ⟨val0, A0, c0, B0, d0, rfl, hx0⟩ := open_value (hval 0 _ v0 rfl rfl) w0 h0 lt0
  refine (walk W (cew_of hL hSh) hx0).mono fun e W' ⟨he, bel⟩ => ?_
  subst he
  exact ⟨_, rfl, _, _, _, [], _, [], hW', trodAll_mk1 (shut_bool Tryz.underlying4 _), (trodAll_cons_mk (Below.trod laidOut (by kernel_rfl) (of_decide_eq_true (by kernel_rfl)) k0 bel lt0) trodAll_mk0), rfl, bel.frame _, fun h => by cases h⟩

theorem laid_met (os : Os) : laidMet Tryz.prog Rows.cellOwnRow.laid ((laidWorld os).forCall (fun _ _ => 0) ⟨#[], #[.agg #[.int .i64 0, .int .i64 0, .string ⟨#[]⟩, .slice none 0 0, .slice none 0 0]], []⟩).memory :=
  laid_met0 os
theorem reads (os : Os) {H : Type} (enc : TypeId × Value → H) : ∃ places, DataW.whole enc Tryz.prog ((laidWorld os).forCall (fun _ _ => 0) ⟨#[], #[.agg #[.int .i64 0, .int .i64 0, .string ⟨#[]⟩, .slice none 0 0, .slice none 0 0]], []⟩).memory Tryz.f8.params.toList Rows.cellOwnSpec.vars false (#[.agg #[.int .i64 0, .int .i64 0, .string ⟨#[]⟩, .slice none 0 0, .slice none 0 0]] : Array Value).toList 8 = some ([.agg [.lit (.int .i64 0), .lit (.int .i64 0), .lit (.string []), .nil, .nil]], [], places) :=
  ⟨[], by kernel_rfl⟩

set_option maxRecDepth 100000 in
theorem lifted (os : Os) (started : os.Started) (H : Type) (enc : TypeId × Value → H) (F : Stop.Interp) :
    ReturnsInHanded {} Tryz.checked os 8 .any ((OpenSpec.ofChange Rows.cellOwnSpec).preRow enc Tryz.prog Tryz.f8 Rows.cellOwnRow.domain false Rows.cellOwnRow.laid) (((OpenSpec.ofChange Rows.cellOwnSpec).at F).post enc Tryz.prog Tryz.f8 false true false false) := by
  obtain ⟨places, hx⟩ := reads os enc
  refine returnsInHanded_of_row (C := Tryz.checked) (s := (OpenSpec.ofChange Rows.cellOwnSpec)) own started (by kernel_rfl) Tryz.func8
    (witness_row_at (enc := enc) (C := Tryz.checked) false (laidWorld os) #[.agg #[.int .i64 0, .int .i64 0, .string ⟨#[]⟩, .slice none 0 0, .slice none 0 0]] rfl (by kernel_rfl) (by kernel_rfl) (by kernel_rfl)
      (OpenSpec.preRow_of_cond 8 hx (by kernel_rfl) (fun k hk => by cases hk) (by kernel_rfl) (laid_met os))) ?_
  intro W base args ds gs before hval hW _ hcond hsz hL hSh _
  exact contract H enc W base args ds gs before hval hW hsz hL hSh

theorem said : Rows.CellOwnSaid :=
  OpenClaim.holds_of_cond 8 Tryz.f8 rfl rfl rfl rfl rfl rfl rfl ⟨rfl, rfl, rfl, rfl, rfl⟩ rfl rfl rfl rfl rfl (by kernel_rfl) Tryz.func8 (by kernel_rfl)
    (of_decide_eq_true (by kernel_rfl)) (by unfold Func.isWrapper; rw [if_neg (of_decide_eq_false (by kernel_rfl))]; exact ⟨rfl, rfl⟩)
    (fun os started H enc _ F => by rw [OpenClaim.pre_eq_preRow]; exact lifted os started H enc F)

theorem noStandIn : ∀ t ∈ ([25] : List TypeId), Tryz.prog.wantsStandIn t = false := by
  intro t ht
  simp only [List.mem_cons, List.not_mem_nil, or_false] at ht
  rcases ht with rfl
  · exact (show Tryz.prog.wantsStandIn 25 = false by kernel_rfl)
theorem plain (f : FuncId) (fn : Func) (hf : Tryz.pinned.checked.prog.funcNamed "satchel/satchellaw22.CellOwn" = some f) (hfn : Tryz.pinned.checked.prog.funcs[f]? = some fn) :
    true = Tryz.pinned.checked.prog.looks [] ∧ ∀ (j : Nat) t, fn.params[j]? = some t → Tryz.pinned.checked.prog.wantsStandIn t = false := by
  obtain rfl : f = 8 := Option.some.inj ((show Tryz.prog.funcNamed "satchel/satchellaw22.CellOwn" = some 8 by kernel_rfl).symm.trans hf) |>.symm
  obtain rfl : fn = Tryz.f8 := (Option.some.inj (Tryz.func8.symm.trans hfn)).symm
  refine ⟨by kernel_rfl, fun j t ht => ?_⟩
  rw [Tryz.params8] at ht
  exact noStandIn t (by simpa using Array.mem_of_getElem? ht)

/-- THE CARD -/
theorem proved : Rows.CellOwnCardSaid :=
  Claim7.holds_tied_plain_at .later [] _ _ _ _ said (fun _ h => by cases h) (by kernel_rfl) (fun _ h => by cases h) cellOwn_row_tie rfl ⟨rfl, rfl⟩ (by kernel_rfl) rfl plain (by kernel_rfl)
end Go.Proofs.YthfoffcfbfmajaaGreatDoor.cellOwn
