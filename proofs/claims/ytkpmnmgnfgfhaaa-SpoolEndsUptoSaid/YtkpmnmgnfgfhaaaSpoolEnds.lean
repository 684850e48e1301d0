/- For all bytes, scripts and lists of what is kept (of at most 1048576 values): with nothing kept the safe bytes are left, with all kept those that are seen; behind a Sync both are one. -/
import Derived.Test.YtkpmnmgnfgfhaaaOpen
import Derived.Test.YtkpmnmgnfgfhaaaRows
import Derived.Test.YtkpmnmgnfgfhaaaBulk
import Derived.Deep.CondSized
import Derived.Test.YtkpmnmgnfgfhaaaSpSpeak
import Derived.Test.YtkpmnmgnfgfhaaaApList
import Derived.Deep.RegionHeld3
import Derived.Deep.Cut
namespace Go.Proofs.Ytkpmnmgnfgfhaaa.spoolEnds
open Go.ChangeShapes Go.WideShapes Go.ChangeAt Go.RowKit
open Go.ChangeMaps (open_string shut_string)
set_option linter.unusedVariables false

set_option maxRecDepth 100000 in
set_option maxHeartbeats 2000000 in
theorem walk (w : World) {A0 : Option Addr} {c0 : Nat} {b : List Nat} (hb : RB w w.heap.size A0 b) (hbc : b.length ≤ c0) (hcm : c0 ≤ 140737488351232) (hbu : b.length + 1 ≤ 1048576)
    {A1 : Option Addr} {n1 c1 : Nat} (hx1 : ∃ L : List Opv, L.length = n1 ∧ Ops w w.heap.size A1 L ∧ n1 ≤ 140737488351232 ∧ opsBulk L + 1 ≤ 1048576)
    {A2 : Option Addr} {n2 c2 : Nat} (hx2 : ∃ ks : List Bool, ks.length = n2 ∧ RL bvl w w.heap.size A2 ks ∧ n2 + 1 ≤ 1048576) :
    Calls Try.prog 5 #[.slice A0 b.length c0, .slice A1 n1 c1, .slice A2 n2 c2] w fun e w' => e = .returned (.bool true) ∧ Below w.heap.size w w' := by
  obtain ⟨L, rfl, hops, hn1, hu⟩ := hx1
  obtain ⟨ks, rfl, hks, hku⟩ := hx2
  obtain ⟨j0, hj, hy0, hy1, hy2⟩ := info_parts bool_info
  have hpb := spBulk_play b L
  have hpn := play_ne b L
  have hpf := play_fewer b L
  have hpg := play_begins b L
  unfold spBulk at hpb
  obtain ⟨p, hp⟩ : ∃ p, p = play b L := ⟨_, rfl⟩
  rw [← hp] at hpb hpn hpf hpg
  obtain ⟨pb, pw⟩ := p
  simp only at hpb hpn hpf hpg
  have Hp := Lib.hid hp
  have Hpn := Lib.hid hpn
  have Hpg := Lib.hid hpg
  have hpl : (seenOf pb pw).length ≤ 2097152 := by omega
  have hpl2 : pw.length ≤ 2097152 := by omega
  have hpl3 : pb.length ≤ (seenOf pb pw).length := by simp [seenOf]
  have hal := aft_len pb pw ks
  obtain ⟨R, hR⟩ : ∃ R, R = aft pb 0 pw ks := ⟨_, rfl⟩
  obtain ⟨T, hT⟩ : ∃ T, T = seenOf pb pw := ⟨_, rfl⟩
  rw [← hR, ← hT] at hal
  rw [← hT] at hpl hpl3
  have HR := Lib.hid hR
  have HT := Lib.hid hT
  have Hl : Hid (R.length ≤ maxLen) := Lib.hid (by unfold maxLen; omega)
  have Ht : Hid (T.length ≤ maxLen) := Lib.hid (by unfold maxLen; omega)
  have Hb : Hid (pb.length ≤ maxLen) := Lib.hid (by unfold maxLen; omega)
  clear hp hpn hpg hR hT hpb
  go_enter Try.func5, Try.ntmps5
  go_wp2_with fail
  refine (speaks7_any w).mono ?_
  rintro e w1 ⟨rfl, hb1⟩
  have h1 : St Zf [] w w1 := (St.start Zf w).below hb1
  clear hb1
  go_wp2_with fail
  refine (run_any h1 hb hops hn1 (by omega)).mono ?_
  rintro e w2 ⟨g, rfl, h2⟩
  rw [← Hp.out] at h2
  simp only at h2
  clear h1
  have hnone := aft_none pw pb 0 [] (fun i => by simp [nthK])
  have hall := aft_all pw pb (List.replicate pw.length true) (fun i hi => by simp [nthK, List.getD_eq_getElem?_getD, hi])
  have hafter : aft T 0 [] ks = T := rfl
  have Hnone := Lib.hid hnone
  obtain ⟨KL, hKL⟩ : ∃ KL, KL = List.replicate pw.length true := ⟨_, rfl⟩
  have hKl : KL.length ≤ pw.length := by rw [hKL]; simp
  rw [← hKL] at hall
  have HKL := Lib.hid hKL
  have Hall : Hid (aft pb 0 pw KL = T) := Lib.hid (by rw [hall, HT.out]; rfl)
  have Hafter := Lib.hid hafter
  clear hKL hnone hall hafter
  have h3 := h2.newNil bvl 4 rfl
  clear h2
  go_wp2
  go_loopw [8, 9] (fun v i wr => ∃ k : Nat, k ≤ pw.length ∧ i = .int .i64 k ∧ St Zf [OlA bvl 4 v (List.replicate k true), SpA g pb pw] w wr) (fun _ i _ => pw.length - (intOf i).toNat)
  case atStart => exact ⟨0, Nat.zero_le _, rfl, h3⟩
  case round =>
    obtain ⟨k, hk, rfl, h5⟩ := hrel
    clear h3
    go_wp2_with fail
    refine (Pending_any h5.swap).mono ?_
    rintro e w4 ⟨rfl, rfl⟩
    by_cases hlt : k < pw.length
    · have hlen : ((List.replicate k true).length + 1) * 1 ≤ 140737488355328 := by simp; omega
      have hst : List.replicate (k + 1) true = List.replicate k true ++ [true] := List.replicate_succ'
      have Hst := Lib.hid hst
      have hkL : k < L.length := by omega
      clear hst
      go_wp2_with (at_builtin; refine wpList_append_elem _ rfl _ _ 32 rfl 0 4 j0 (.bool false) 1 Try.underlying32 hj hy0 hy1 hy2 rfl _ (List.replicate k true) (by rfl) h5.ol true (bvl_ok true) (by rfl) hlen (by omega) (Nat.zero_le _) ?_; intro v7 w7 hown7 hg7 hat7; have h7 := h5.grewOl hown7 hg7 hat7 (by omega); rw [← Hst.out] at h7; clear hown7 hg7 hat7 h5)
      go_roundw
      case rel => exact ⟨k + 1, by omega, by go_num, h7⟩
      case measure => simp [intOf]; omega
    · obtain rfl : k = pw.length := by omega
      rw [← HKL.out] at h5
      obtain ⟨Aal, cal, rfl, -, -, -, -⟩ := h5.ol.form
      go_wp2_with fail
      refine (Seen_any h5.swap (by rw [← HT.out]; omega)).mono ?_
      rintro e w6 ⟨v6, rfl, h6⟩
      rw [← HT.out] at h6
      obtain ⟨As, cs, rfl, -, -, -, -⟩ := h6.ob.form
      clear h5
      go_wp2_with fail
      refine (After_any h6.swap none 0 [] (RL.empty _ _ _ _) (by rw [← HT.out]; omega) (by omega) (by simp) Hpn.out).mono ?_
      rintro e w7 ⟨v7, rfl, h7⟩
      rw [Hnone.out] at h7
      obtain ⟨An, cn, rfl, -, -, -, -⟩ := h7.ob.form
      clear h6
      go_wp2_with fail
      refine (Safe_any h7.swap (by omega)).mono ?_
      rintro e w8 ⟨v8, rfl, h8⟩
      obtain ⟨Af, cf, rfl, -, -, -, -⟩ := h8.ob.form
      clear h7
      go_wp2_with fail
      refine (same_yes An Af pb.length cn cf _ _ pb _ h8.bring2.ob.reads.2.1 h8.ob.reads.2.1 rfl Hb.out).mono ?_
      rintro e w9 ⟨rfl, n1, hw9⟩
      have h9 := h8.drewN n1
      rw [← hw9] at h9
      clear h8 hw9
      go_wp2_with fail
      refine (After_any h9.swap Aal cal KL (h9.bring4.ol.reads.2.1) (by rw [← HT.out]; omega) (by omega) (by omega) Hpn.out).mono ?_
      rintro e w10 ⟨v10, rfl, h10⟩
      rw [Hall.out] at h10
      obtain ⟨Al, cl, rfl, -, -, -, -⟩ := h10.ob.form
      clear h9
      go_wp2_with fail
      refine (same_yes Al As T.length cl cs _ _ T _ h10.ob.reads.2.1 h10.bring4.ob.reads.2.1 rfl Ht.out).mono ?_
      rintro e w11 ⟨rfl, n2, hw11⟩
      have h11 := h10.drewN n2
      rw [← hw11] at h11
      clear h10 hw11
      go_wp2_with fail
      refine (Sync_any h11.swap).mono ?_
      rintro e w12 ⟨rfl, h12⟩
      rw [← HT.out] at h12
      clear h11
      have hr := h12.rl hks (Nat.le_refl _)
      have hsz := h12.size
      have hq := h12.newNil bvl 4 rfl
      have hnil : (([] : List Bool).length + ks.length) * 1 ≤ 140737488355328 := by simp; omega
      clear h12
      go_wp2_with (at_builtin; refine wpList_append_list _ rfl _ _ 32 rfl 0 4 j0 (.bool false) 1 Try.underlying32 hj hy0 hy1 hy2 rfl _ [] (by rfl) hq.ol A2 c2 w.heap.size ks ks.length rfl (by rfl) (hr.alloc hsz _) hnil (by omega) (Nat.zero_le _) ?_; intro v13 w13 hown hg hat; have h13 := Lib.hid (hq.grewOl hown hg hat (Nat.le_refl _)); rw [List.nil_append] at h13; obtain ⟨Akk, ckk, rfl, -, -, -, -⟩ := h13.out.ol.form; clear hown hg hat hq hr)
      replace h13 := h13.out
      refine (After_any h13.swap Akk ckk ks h13.ol.reads.2.1 (by simp [seenOf]; omega) (by simp) (by omega) (fun x hx => by cases hx)).mono ?_
      rintro e w14 ⟨v14, rfl, h14⟩
      rw [Hafter.out] at h14
      obtain ⟨Am, cm, rfl, -, -, -, -⟩ := h14.ob.form
      clear h13
      go_wp2_with fail
      refine (same_yes Am As T.length cm cs _ _ T _ h14.ob.reads.2.1 h14.bring6.ob.reads.2.1 rfl Ht.out).mono ?_
      rintro e w15 ⟨rfl, n3, hw15⟩
      have h15 := h14.drewN n3
      rw [← hw15] at h15
      clear h14 hw15
      go_wp2_with fail
      refine (Safe_any h15.swap (by omega)).mono ?_
      rintro e w16 ⟨v16, rfl, h16⟩
      obtain ⟨Aq, cq, rfl, -, -, -, -⟩ := h16.ob.form
      clear h15
      go_wp2_with fail
      refine (same_yes Aq As T.length cq cs _ _ T _ h16.ob.reads.2.1 h16.bring7.ob.reads.2.1 rfl Ht.out).mono ?_
      rintro e w17 ⟨rfl, n4, hw17⟩
      have h17 := h16.drewN n4
      rw [← hw17] at h17
      clear h16 hw17
      go_wp2_with fail
      refine (Pending_any h17.swap).mono ?_
      rintro e w18 ⟨rfl, rfl⟩
      have hbel := h17.bel
      clear h17
      go_wp2
      go_ret
      exact ⟨rfl, hbel⟩

/-! ### THE ROW's STEP -/
theorem own : ownKnob Try.prog.godebug = none := by kernel_rfl
theorem laidOut : laidOutB Try.prog = true := by kernel_rfl

theorem contract (H : Type) (enc : TypeId × Value → H) (W : World) (base : Nat) (args : Array Value) (ds gs : List (DataW H)) (before : List MemPlace)
    (hval0 : ∀ (j : Nat) t v, Try.f5.params[j]? = some t → args[j]? = some v → Value.okWide Try.prog W .any base t v)
    (hW : DataW.Whole enc Try.prog Try.f5.params.toList Rows.spoolEndsSpec.vars false W args.toList ds gs before)
    (hk : Rows.uptoSmall H (ds ++ gs) = true)
    (hsz : (DataW.weightsEach Try.prog (Try.f5.params.toList ++ (Rows.OpenSpec.upto Rows.spoolEndsSpec).bare.plain.varTypes Try.prog) (ds ++ gs)).all (· ≤ reachBytes) = true) :
    Calls Try.prog 5 args W fun e W' => ∃ v, e = .returned v ∧ Rows.spoolEndsSpec.post enc Try.prog Try.f5 false true false false W args v W' := by
  have hval : ∀ (j : Nat) t v, Try.f5.params[j]? = some t → args[j]? = some v → Value.okWide Try.prog W .any base t v := hval0
  have hW' := hW
  obtain ⟨p, q, hA0, hV, rfl, hfz, hnd⟩ := hW
  have hA : DataW.TrodAll enc Try.prog W 0 (fun _ => true) true Try.f5.params.toList args.toList ds p := hA0
  rw [Try.params5] at hA hval
  obtain ⟨v0, vs0, d0, ds0, p0, q0, hargs, rfl, rfl, h0, r0⟩ := trodAll_cons hA
  obtain ⟨v1, vs1, d1, ds1, p1, q1, rfl, rfl, rfl, h1, r1⟩ := trodAll_cons r0
  obtain ⟨v2, vs2, d2, ds2, p2, q2, rfl, rfl, rfl, h2, r2⟩ := trodAll_cons r1
  obtain ⟨rfl, rfl, rfl⟩ := trodAll_nil r2
  obtain rfl : args = #[v0, v1, v2] := by cases args; simp_all
  obtain ⟨rfl, rfl⟩ := trodVars_none hV
  have k0 := h0
  have lt0 : ∀ x ∈ p0, x.block < W.heap.size := by obtain ⟨m, hm⟩ := k0; exact DataW.trod_lt m _ _ _ hm
  have w0 := reach_at hsz (j := 0) rfl rfl
  have u0 : Rows.uptoBulk d0 ≤ 1048576 := bulk_at hk (by simp)
  have k1 := h1
  have lt1 : ∀ x ∈ p1, x.block < W.heap.size := by obtain ⟨m, hm⟩ := k1; exact DataW.trod_lt m _ _ _ hm
  have w1 := reach_at hsz (j := 1) rfl rfl
  have u1 : Rows.uptoBulk d1 ≤ 1048576 := bulk_at hk (by simp)
  have k2 := h2
  have lt2 : ∀ x ∈ p2, x.block < W.heap.size := by obtain ⟨m, hm⟩ := k2; exact DataW.trod_lt m _ _ _ hm
  have w2 := reach_at hsz (j := 2) rfl rfl
  have u2 : Rows.uptoBulk d2 ≤ 1048576 := bulk_at hk (by simp)
  clear hA0 hval0 hsz
  obtain ⟨A0, n0, c0, rfl⟩ := okWide_slice Try.underlying22 (hval 0 22 v0 rfl rfl)
  have ub0 := Nat.le_trans (bytes_bulk Try.underlying22 Try.underlying5 (by kernel_rfl) k0) u0
  obtain ⟨b0, rfl, rb0, cb0, mb0⟩ := open_bytes Try.underlying22 Try.underlying5 (by kernel_rfl) (by kernel_rfl) w0 h0
  obtain ⟨A1, n1, c1, rfl, hx1⟩ := open_opsU (hval 1 _ v1 rfl rfl) w1 h1 lt1 u1
  obtain ⟨A2, n2, c2, rfl, hx2⟩ := open_boolsU (hval 2 _ v2 rfl rfl) w2 h2 lt2 u2
  refine (walk W rb0 cb0 mb0 ub0 hx1 hx2).mono fun e W' ⟨he, bel⟩ => ?_
  subst he
  exact ⟨_, rfl, _, _, _, [], _, [], hW', trodAll_mk1 (shut_bool Try.underlying4 _), (trodAll_cons_mk (Below.trod laidOut (by kernel_rfl) (of_decide_eq_true (by kernel_rfl)) k0 bel lt0) (trodAll_cons_mk (Below.trod laidOut (by kernel_rfl) (of_decide_eq_true (by kernel_rfl)) k1 bel lt1) (trodAll_cons_mk (Below.trod laidOut (by kernel_rfl) (of_decide_eq_true (by kernel_rfl)) k2 bel lt2) trodAll_mk0))), rfl, bel.frame _, fun h => by cases h⟩

set_option maxRecDepth 100000 in
theorem lifted (os : Os) (started : os.Started) (H : Type) (enc : TypeId × Value → H) (F : Stop.Interp) :
    ReturnsInHanded {} Try.checked os 5 .any ((Rows.OpenSpec.upto Rows.spoolEndsSpec).pre6 enc Try.prog Try.f5 Rows.spoolEndsUptoRow.domain false) (((Rows.OpenSpec.upto Rows.spoolEndsSpec).at F).post enc Try.prog Try.f5 false true false false) := by
  refine returnsInHanded_of_cond_sized (C := Try.checked) (s := (Rows.OpenSpec.upto Rows.spoolEndsSpec)) (k := Rows.uptoSmall) rfl own started (by kernel_rfl) Try.func5
    (OpenSpec.witness (enc := enc) (C := Try.checked) (s := (Rows.OpenSpec.upto Rows.spoolEndsSpec)) (k := Rows.uptoSmall) rfl false ⟨#[], #[.slice none 0 0, .slice none 0 0, .slice none 0 0], []⟩ 8 (by kernel_rfl) (by kernel_rfl) (by kernel_rfl)
      (x := ([.nil, .nil, .nil], [], [])) (by kernel_rfl) rfl (by kernel_rfl)) ?_
  intro W base args ds gs before hval hW _ hk hsz _
  exact contract H enc W base args ds gs before hval hW hk hsz

/-- THE STATEMENT -/
theorem proved : Rows.SpoolEndsUptoSaid :=
  OpenClaim.holds_of_cond 5 Try.f5 rfl rfl rfl rfl rfl rfl rfl ⟨rfl, rfl, rfl, rfl, rfl⟩ rfl rfl rfl rfl rfl (by kernel_rfl) Try.func5 (by kernel_rfl)
    (of_decide_eq_true (by kernel_rfl)) (by unfold Func.isWrapper; rw [if_neg (of_decide_eq_false (by kernel_rfl))]; exact ⟨rfl, rfl⟩)
    (fun os started H enc _ F => lifted os started H enc F)
end Go.Proofs.Ytkpmnmgnfgfhaaa.spoolEnds
