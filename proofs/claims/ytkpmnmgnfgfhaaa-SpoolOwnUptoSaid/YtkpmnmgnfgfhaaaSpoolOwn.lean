/- For all bytes, scripts and lists of what is kept (of at most 1048576 values): a spool's answers are new memory: what is written over one of them alters neither another answer nor the spool. -/
import Derived.Test.YtkpmnmgnfgfhaaaOpen
import Derived.Test.YtkpmnmgnfgfhaaaRows
import Derived.Test.YtkpmnmgnfgfhaaaBulk
import Derived.Deep.CondSized
import Derived.Test.YtkpmnmgnfgfhaaaSpSpeak
import Derived.Test.YtkpmnmgnfgfhaaaApList
import Derived.Deep.RegionHeld3
import Derived.Deep.Cut
namespace Go.Proofs.Ytkpmnmgnfgfhaaa.spoolOwn
open Go.ChangeShapes Go.WideShapes Go.ChangeAt Go.RowKit
open Go.ChangeMaps (open_string shut_string)
set_option linter.unusedVariables false

set_option maxRecDepth 100000 in
set_option maxHeartbeats 2000000 in
theorem walk (w : World) {A0 : Option Addr} {c0 : Nat} {b : List Nat} (hb : RB w w.heap.size A0 b) (hbc : b.length ≤ c0) (hcm : c0 ≤ 140737488351232) (hbu : b.length + 1 ≤ 1048576)
    {A1 : Option Addr} {n1 c1 : Nat} (hx1 : ∃ L : List Opv, L.length = n1 ∧ Ops w w.heap.size A1 L ∧ n1 ≤ 140737488351232 ∧ opsBulk L + 1 ≤ 1048576)
    {A2 : Option Addr} {n2 c2 : Nat} (hx2 : ∃ ks : List Bool, ks.length = n2 ∧ RL bvl w w.heap.size A2 ks ∧ n2 + 1 ≤ 1048576) :
    Calls Try.prog 7 #[.slice A0 b.length c0, .slice A1 n1 c1, .slice A2 n2 c2] w fun e w' => e = .returned (.bool true) ∧ Below w.heap.size w w' := by
  obtain ⟨L, rfl, hops, hn1, hu⟩ := hx1
  obtain ⟨ks, rfl, hks, hku⟩ := hx2
  obtain ⟨j0, hj, hy0, hy1, hy2⟩ := info_parts bool_info
  have hpb := spBulk_play b L
  have hpn := play_ne b L
  have hpf := play_fewer b L
  have hpg := play_begins b L
  unfold spBulk at hpb
  obtain ⟨p, hp⟩ : ∃ p, p = play b L := ⟨_, rfl⟩
  rw [← hp] at hpb hpn hpf hpg
  obtain ⟨pb, pw⟩ := p
  simp only at hpb hpn hpf hpg
  have Hp := Lib.hid hp
  have Hpn := Lib.hid hpn
  have Hpg := Lib.hid hpg
  have hpl : (seenOf pb pw).length ≤ 2097152 := by omega
  have hpl2 : pw.length ≤ 2097152 := by omega
  have hpl3 : pb.length ≤ (seenOf pb pw).length := by simp [seenOf]
  have hal := aft_len pb pw ks
  obtain ⟨R, hR⟩ : ∃ R, R = aft pb 0 pw ks := ⟨_, rfl⟩
  obtain ⟨T, hT⟩ : ∃ T, T = seenOf pb pw := ⟨_, rfl⟩
  rw [← hR, ← hT] at hal
  rw [← hT] at hpl hpl3
  have HR := Lib.hid hR
  have HT := Lib.hid hT
  have Hl : Hid (R.length ≤ maxLen) := Lib.hid (by unfold maxLen; omega)
  have Ht : Hid (T.length ≤ maxLen) := Lib.hid (by unfold maxLen; omega)
  have Hb : Hid (pb.length ≤ maxLen) := Lib.hid (by unfold maxLen; omega)
  clear hp hpn hpg hR hT hpb
  go_enter Try.func7, Try.ntmps7
  go_wp2_with fail
  refine (speaks7_any w).mono ?_
  rintro e w1 ⟨rfl, hb1⟩
  have h1 : St Zf [] w w1 := (St.start Zf w).below hb1
  clear hb1
  go_wp2_with fail
  refine (run_any h1 hb hops hn1 (by omega)).mono ?_
  rintro e w2 ⟨g, rfl, h2⟩
  rw [← Hp.out] at h2
  simp only at h2
  clear h1
  go_wp2_with fail
  refine (Seen_any h2 (by rw [← HT.out]; omega)).mono ?_
  rintro e w3 ⟨v3, rfl, h3⟩
  rw [← HT.out] at h3
  obtain ⟨As, cs, rfl, -, -, -, -⟩ := h3.ob.form
  clear h2
  go_wp2_with fail
  refine (Safe_any h3.swap (by omega)).mono ?_
  rintro e w4 ⟨v4, rfl, h4⟩
  obtain ⟨Af, cf, rfl, -, -, -, -⟩ := h4.ob.form
  clear h3
  go_wp2_with fail
  refine (After_any h4.swap A2 c2 ks ((h4.rl hks (Nat.le_refl _)).more h4.size) (by rw [← HT.out]; omega) (by omega) (by omega) Hpn.out).mono ?_
  rintro e w5 ⟨v5, rfl, h5⟩
  rw [← HR.out] at h5
  obtain ⟨Al, cl, rfl, -, -, -, -⟩ := h5.ob.form
  clear h4
  go_wp2_with fail
  refine (Copy7_any As cs _ T w5 (h5.bring3.ob.reads.2.1) (Nat.le_refl _) (by omega)).mono ?_
  rintro e w6 ⟨v6, rfl, ho6, hb6⟩
  have h6 := h5.newOb ho6 hb6
  obtain ⟨Ax, cx, rfl, -, -, -, -⟩ := ho6.form
  clear h5 ho6 hb6
  go_wp2_with fail
  refine (Copy7_any Af cf _ pb w6 (h6.bring3.ob.reads.2.1) (Nat.le_refl _) (by omega)).mono ?_
  rintro e w7 ⟨v7, rfl, ho7, hb7⟩
  have h7 := h6.newOb ho7 hb7
  obtain ⟨Ay, cy, rfl, -, -, -, -⟩ := ho7.form
  clear h6 ho7 hb7
  go_wp2_with fail
  refine (Copy7_any Al cl _ R w7 (h7.bring2.ob.reads.2.1) (Nat.le_refl _) (by omega)).mono ?_
  rintro e w8 ⟨v8, rfl, ho8, hb8⟩
  have h8 := h7.newOb ho8 hb8
  obtain ⟨Az, cz, rfl, -, -, -, -⟩ := ho8.form
  clear h7 ho8 hb8
  go_wp2_with fail
  refine (Seen_any h8.bring4 (by rw [← HT.out]; omega)).mono ?_
  rintro e w9 ⟨v9, rfl, h9⟩
  rw [← HT.out] at h9
  obtain ⟨Aa, ca, rfl, -, -, -, -⟩ := h9.ob.form
  clear h8
  go_wp2_with fail
  refine (Safe_any h9.swap (by omega)).mono ?_
  rintro e w10 ⟨v10, rfl, h10⟩
  obtain ⟨Ab, cb, rfl, -, -, -, -⟩ := h10.ob.form
  clear h9
  go_wp2_with fail
  refine (After_any h10.swap A2 c2 ks ((h10.rl hks (Nat.le_refl _)).more h10.size) (by rw [← HT.out]; omega) (by omega) (by omega) Hpn.out).mono ?_
  rintro e w11 ⟨v11, rfl, h11⟩
  rw [← HR.out] at h11
  obtain ⟨Ac, cc, rfl, -, -, -, -⟩ := h11.ob.form
  clear h10
  go_wp2_with fail
  refine (St.spoil h11.bring9 (by omega)).mono ?_
  rintro e w12 ⟨rfl, h12⟩
  clear h11
  go_wp2_with fail
  refine (St.spoil h12.bring8 (by omega)).mono ?_
  rintro e w13 ⟨rfl, h13⟩
  clear h12
  go_wp2_with fail
  refine (St.spoil h13.bring7 (by omega)).mono ?_
  rintro e w14 ⟨rfl, h14⟩
  clear h13
  go_wp2_with fail
  refine (same_yes Aa Ax T.length ca cx _ _ T _ h14.bring3.ob.reads.2.1 h14.bring6.ob.reads.2.1 rfl Ht.out).mono ?_
  rintro e w15 ⟨rfl, n1, hw15⟩
  have h15 := h14.drewN n1
  rw [← hw15] at h15
  clear h14 hw15
  go_wp2_with fail
  refine (same_yes Ab Ay pb.length cb cy _ _ pb _ h15.bring2.ob.reads.2.1 h15.bring5.ob.reads.2.1 rfl Hb.out).mono ?_
  rintro e w16 ⟨rfl, n2, hw16⟩
  have h16 := h15.drewN n2
  rw [← hw16] at h16
  clear h15 hw16
  go_wp2_with fail
  refine (same_yes Ac Az R.length cc cz _ _ R _ h16.ob.reads.2.1 h16.bring4.ob.reads.2.1 rfl Hl.out).mono ?_
  rintro e w17 ⟨rfl, n3, hw17⟩
  have h17 := h16.drewN n3
  rw [← hw17] at h17
  clear h16 hw17
  go_wp2_with fail
  refine (Seen_any h17.swap (by rw [← HT.out]; omega)).mono ?_
  rintro e w18 ⟨v18, rfl, h18⟩
  rw [← HT.out] at h18
  obtain ⟨As, cs, rfl, -, -, -, -⟩ := h18.ob.form
  clear h17
  go_wp2_with fail
  refine (same_yes As Ax T.length cs cx _ _ T _ h18.ob.reads.2.1 h18.bring7.ob.reads.2.1 rfl Ht.out).mono ?_
  rintro e w19 ⟨rfl, n4, hw19⟩
  have h19 := h18.drewN n4
  rw [← hw19] at h19
  clear h18 hw19
  go_wp2_with fail
  refine (Safe_any h19.swap (by omega)).mono ?_
  rintro e w20 ⟨v20, rfl, h20⟩
  obtain ⟨Af, cf, rfl, -, -, -, -⟩ := h20.ob.form
  clear h19
  go_wp2_with fail
  refine (same_yes Af Ay pb.length cf cy _ _ pb _ h20.ob.reads.2.1 h20.bring7.ob.reads.2.1 rfl Hb.out).mono ?_
  rintro e w21 ⟨rfl, n5, hw21⟩
  have h21 := h20.drewN n5
  rw [← hw21] at h21
  clear h20 hw21
  go_wp2_with fail
  refine (After_any h21.swap A2 c2 ks ((h21.rl hks (Nat.le_refl _)).more h21.size) (by rw [← HT.out]; omega) (by omega) (by omega) Hpn.out).mono ?_
  rintro e w22 ⟨v22, rfl, h22⟩
  rw [← HR.out] at h22
  obtain ⟨Al, cl, rfl, -, -, -, -⟩ := h22.ob.form
  clear h21
  go_wp2_with fail
  refine (same_yes Al Az R.length cl cz _ _ R _ h22.ob.reads.2.1 h22.bring7.ob.reads.2.1 rfl Hl.out).mono ?_
  rintro e w23 ⟨rfl, n6, hw23⟩
  have h23 := h22.drewN n6
  rw [← hw23] at h23
  clear h22 hw23
  have hbel := h23.bel
  clear h23
  go_wp2
  go_ret
  exact ⟨rfl, hbel⟩

/-! ### THE ROW's STEP -/
theorem own : ownKnob Try.prog.godebug = none := by kernel_rfl
theorem laidOut : laidOutB Try.prog = true := by kernel_rfl

theorem contract (H : Type) (enc : TypeId × Value → H) (W : World) (base : Nat) (args : Array Value) (ds gs : List (DataW H)) (before : List MemPlace)
    (hval0 : ∀ (j : Nat) t v, Try.f7.params[j]? = some t → args[j]? = some v → Value.okWide Try.prog W .any base t v)
    (hW : DataW.Whole enc Try.prog Try.f7.params.toList Rows.spoolOwnSpec.vars false W args.toList ds gs before)
    (hk : Rows.uptoSmall H (ds ++ gs) = true)
    (hsz : (DataW.weightsEach Try.prog (Try.f7.params.toList ++ (Rows.OpenSpec.upto Rows.spoolOwnSpec).bare.plain.varTypes Try.prog) (ds ++ gs)).all (· ≤ reachBytes) = true) :
    Calls Try.prog 7 args W fun e W' => ∃ v, e = .returned v ∧ Rows.spoolOwnSpec.post enc Try.prog Try.f7 false true false false W args v W' := by
  have hval : ∀ (j : Nat) t v, Try.f7.params[j]? = some t → args[j]? = some v → Value.okWide Try.prog W .any base t v := hval0
  have hW' := hW
  obtain ⟨p, q, hA0, hV, rfl, hfz, hnd⟩ := hW
  have hA : DataW.TrodAll enc Try.prog W 0 (fun _ => true) true Try.f7.params.toList args.toList ds p := hA0
  rw [Try.params7] at hA hval
  obtain ⟨v0, vs0, d0, ds0, p0, q0, hargs, rfl, rfl, h0, r0⟩ := trodAll_cons hA
  obtain ⟨v1, vs1, d1, ds1, p1, q1, rfl, rfl, rfl, h1, r1⟩ := trodAll_cons r0
  obtain ⟨v2, vs2, d2, ds2, p2, q2, rfl, rfl, rfl, h2, r2⟩ := trodAll_cons r1
  obtain ⟨rfl, rfl, rfl⟩ := trodAll_nil r2
  obtain rfl : args = #[v0, v1, v2] := by cases args; simp_all
  obtain ⟨rfl, rfl⟩ := trodVars_none hV
  have k0 := h0
  have lt0 : ∀ x ∈ p0, x.block < W.heap.size := by obtain ⟨m, hm⟩ := k0; exact DataW.trod_lt m _ _ _ hm
  have w0 := reach_at hsz (j := 0) rfl rfl
  have u0 : Rows.uptoBulk d0 ≤ 1048576 := bulk_at hk (by simp)
  have k1 := h1
  have lt1 : ∀ x ∈ p1, x.block < W.heap.size := by obtain ⟨m, hm⟩ := k1; exact DataW.trod_lt m _ _ _ hm
  have w1 := reach_at hsz (j := 1) rfl rfl
  have u1 : Rows.uptoBulk d1 ≤ 1048576 := bulk_at hk (by simp)
  have k2 := h2
  have lt2 : ∀ x ∈ p2, x.block < W.heap.size := by obtain ⟨m, hm⟩ := k2; exact DataW.trod_lt m _ _ _ hm
  have w2 := reach_at hsz (j := 2) rfl rfl
  have u2 : Rows.uptoBulk d2 ≤ 1048576 := bulk_at hk (by simp)
  clear hA0 hval0 hsz
  obtain ⟨A0, n0, c0, rfl⟩ := okWide_slice Try.underlying22 (hval 0 22 v0 rfl rfl)
  have ub0 := Nat.le_trans (bytes_bulk Try.underlying22 Try.underlying5 (by kernel_rfl) k0) u0
  obtain ⟨b0, rfl, rb0, cb0, mb0⟩ := open_bytes Try.underlying22 Try.underlying5 (by kernel_rfl) (by kernel_rfl) w0 h0
  obtain ⟨A1, n1, c1, rfl, hx1⟩ := open_opsU (hval 1 _ v1 rfl rfl) w1 h1 lt1 u1
  obtain ⟨A2, n2, c2, rfl, hx2⟩ := open_boolsU (hval 2 _ v2 rfl rfl) w2 h2 lt2 u2
  refine (walk W rb0 cb0 mb0 ub0 hx1 hx2).mono fun e W' ⟨he, bel⟩ => ?_
  subst he
  exact ⟨_, rfl, _, _, _, [], _, [], hW', trodAll_mk1 (shut_bool Try.underlying4 _), (trodAll_cons_mk (Below.trod laidOut (by kernel_rfl) (of_decide_eq_true (by kernel_rfl)) k0 bel lt0) (trodAll_cons_mk (Below.trod laidOut (by kernel_rfl) (of_decide_eq_true (by kernel_rfl)) k1 bel lt1) (trodAll_cons_mk (Below.trod laidOut (by kernel_rfl) (of_decide_eq_true (by kernel_rfl)) k2 bel lt2) trodAll_mk0))), rfl, bel.frame _, fun h => by cases h⟩

set_option maxRecDepth 100000 in
theorem lifted (os : Os) (started : os.Started) (H : Type) (enc : TypeId × Value → H) (F : Stop.Interp) :
    ReturnsInHanded {} Try.checked os 7 .any ((Rows.OpenSpec.upto Rows.spoolOwnSpec).pre6 enc Try.prog Try.f7 Rows.spoolOwnUptoRow.domain false) (((Rows.OpenSpec.upto Rows.spoolOwnSpec).at F).post enc Try.prog Try.f7 false true false false) := by
  refine returnsInHanded_of_cond_sized (C := Try.checked) (s := (Rows.OpenSpec.upto Rows.spoolOwnSpec)) (k := Rows.uptoSmall) rfl own started (by kernel_rfl) Try.func7
    (OpenSpec.witness (enc := enc) (C := Try.checked) (s := (Rows.OpenSpec.upto Rows.spoolOwnSpec)) (k := Rows.uptoSmall) rfl false ⟨#[], #[.slice none 0 0, .slice none 0 0, .slice none 0 0], []⟩ 8 (by kernel_rfl) (by kernel_rfl) (by kernel_rfl)
      (x := ([.nil, .nil, .nil], [], [])) (by kernel_rfl) rfl (by kernel_rfl)) ?_
  intro W base args ds gs before hval hW _ hk hsz _
  exact contract H enc W base args ds gs before hval hW hk hsz

/-- THE STATEMENT -/
theorem proved : Rows.SpoolOwnUptoSaid :=
  OpenClaim.holds_of_cond 7 Try.f7 rfl rfl rfl rfl rfl rfl rfl ⟨rfl, rfl, rfl, rfl, rfl⟩ rfl rfl rfl rfl rfl (by kernel_rfl) Try.func7 (by kernel_rfl)
    (of_decide_eq_true (by kernel_rfl)) (by unfold Func.isWrapper; rw [if_neg (of_decide_eq_false (by kernel_rfl))]; exact ⟨rfl, rfl⟩)
    (fun os started H enc _ F => lifted os started H enc F)
end Go.Proofs.Ytkpmnmgnfgfhaaa.spoolOwn
