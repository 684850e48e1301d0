/- For all bytes, scripts and lists of what is kept (of at most 1048576 values): what a loss of power leaves of a file behind any writes and syncs is exactly the document's. -/
import Derived.Test.YtkpmnmgnfgfhaaaOpen
import Derived.Test.YtkpmnmgnfgfhaaaRows
import Derived.Test.YtkpmnmgnfgfhaaaBulk
import Derived.Deep.CondSized
import Derived.Test.YtkpmnmgnfgfhaaaSpSpeak
import Derived.Test.YtkpmnmgnfgfhaaaApList
import Derived.Deep.RegionHeld3
import Derived.Deep.Cut
namespace Go.Proofs.Ytkpmnmgnfgfhaaa.spoolAfter
open Go.ChangeShapes Go.WideShapes Go.ChangeAt Go.RowKit
open Go.ChangeMaps (open_string shut_string)
set_option linter.unusedVariables false

set_option maxRecDepth 100000 in
set_option maxHeartbeats 2000000 in
theorem walk (w : World) {A0 : Option Addr} {c0 : Nat} {b : List Nat} (hb : RB w w.heap.size A0 b) (hbc : b.length ≤ c0) (hcm : c0 ≤ 140737488351232) (hbu : b.length + 1 ≤ 1048576)
    {A1 : Option Addr} {n1 c1 : Nat} (hx1 : ∃ L : List Opv, L.length = n1 ∧ Ops w w.heap.size A1 L ∧ n1 ≤ 140737488351232 ∧ opsBulk L + 1 ≤ 1048576)
    {A2 : Option Addr} {n2 c2 : Nat} (hx2 : ∃ ks : List Bool, ks.length = n2 ∧ RL bvl w w.heap.size A2 ks ∧ n2 + 1 ≤ 1048576) :
    Calls Try.prog 4 #[.slice A0 b.length c0, .slice A1 n1 c1, .slice A2 n2 c2] w fun e w' => e = .returned (.bool true) ∧ Below w.heap.size w w' := by
  obtain ⟨L, rfl, hops, hn1, hu⟩ := hx1
  obtain ⟨ks, rfl, hks, hku⟩ := hx2
  obtain ⟨j0, hj, hy0, hy1, hy2⟩ := info_parts bool_info
  have hpb := spBulk_play b L
  have hpn := play_ne b L
  unfold spBulk at hpb
  obtain ⟨p, hp⟩ : ∃ p, p = play b L := ⟨_, rfl⟩
  rw [← hp] at hpb hpn
  obtain ⟨pb, pw⟩ := p
  simp only at hpb hpn
  have Hp := Lib.hid hp
  have Hpn := Lib.hid hpn
  have hpl : (seenOf pb pw).length ≤ 2097152 := by omega
  have hpl2 : pw.length ≤ 2097152 := by omega
  clear hp hpn
  go_enter Try.func4, Try.ntmps4
  go_wp2_with fail
  refine (speaks7_any w).mono ?_
  rintro e w1 ⟨rfl, hb1⟩
  have h1 : St Zf [] w w1 := (St.start Zf w).below hb1
  clear hb1
  go_wp2_with fail
  refine (run_any h1 hb hops hn1 (by omega)).mono ?_
  rintro e w2 ⟨g, rfl, h2⟩
  rw [← Hp.out] at h2
  simp only at h2
  clear h1
  go_wp2_with fail
  refine (rfNew_any h2 A0 c0 w.heap.size b (h2.rb hb (Nat.le_refl _)) h2.size (by omega)).mono ?_
  rintro e w3 ⟨g', rfl, h3⟩
  clear h2
  go_wp2
  go_loopw [22] (fun i wr => ∃ (k : Nat) (p : List Nat × List (List Nat)), k ≤ L.length ∧ i = .int .i64 k ∧ p = play b (L.take k) ∧ St Zf [RfA g' p.1 p.2, SpA g pb pw] w wr) (fun i _ => L.length - (intOf i).toNat)
  case atStart => exact ⟨0, (b, []), Nat.zero_le _, rfl, rfl, h3⟩
  case round =>
    obtain ⟨k, p, hk, rfl, hp, h5⟩ := hrel
    clear h3
    by_cases hlt : k < L.length
    · obtain ⟨ob, off, rfl, hbB, X2, y2, X3, y3, q0, q1, q2, hr2, hr3, hr0⟩ := hops k _ (opAt_get hlt)
      have hpn : play b (L.take (k + 1)) = stepOp p (opAt L k) := by rw [take_opAt hlt, play_snoc, ← hp]
      have hbk := spBulk_play b (L.take k)
      have hbt := opsBulk_take L (k + 1)
      have hst : opsBulk (L.take (k + 1)) = opsBulk (L.take k) + ((opAt L k).bs.length + (opAt L k).ks.length + 4) := by rw [take_opAt hlt, opsBulk_append, opsBulk_one]
      rw [← hp] at hbk
      unfold spBulk at hbk
      generalize opAt L k = o at *
      obtain ⟨kd, ds, ks⟩ := o
      obtain ⟨qb, qw⟩ := p
      simp only at q0 q1 q2 hr2 hr3 hr0 hst hbk h5
      have h6 := h5.newBlk 34 #[.int .i64 kd, .slice X2 ds.length y2, .slice X3 ks.length y3]
      have k0 := (h5.old (p := ⟨ob, off + k * 3, none⟩) hbB).trans q0
      have k1 := (h5.old (p := ⟨ob, off + k * 3 + 1, none⟩) hbB).trans q1
      have k2 := (h5.old (p := ⟨ob, off + k * 3 + 2, none⟩) hbB).trans q2
      have Hpn := Lib.hid hpn
      have hdl : ds.length ≤ 2097152 := by omega
      have hql : (seenOf qb qw).length + ds.length ≤ 2097152 := by omega
      have hql2 : qw.length ≤ 2097152 := by omega
      clear q0 q1 q2 hp hpn hst h5
      have hk4 : bits .and .i64 kd 3 = 0 ∨ bits .and .i64 kd 3 = 1 ∨ bits .and .i64 kd 3 = 2 ∨ (bits .and .i64 kd 3 ≠ 0 ∧ bits .and .i64 kd 3 ≠ 1 ∧ bits .and .i64 kd 3 ≠ 2) := by omega
      rcases hk4 with hk0 | hk1 | hk2 | hk4
      · have HS := Lib.hid (stepOp_write (p := (qb, qw)) (o := ⟨kd, ds, ks⟩) (.inl hk0))
        go_wp2_with fail
        obtain ⟨wo, hwo⟩ : ∃ x, x = wr.alloc (.cells #[.int .i64 kd, .slice X2 ds.length y2, .slice X3 ks.length y3] 34) := ⟨_, rfl⟩
        rw [← hwo] at h6
        rw [← hwo]
        clear hwo
        refine (rfAppend_any h6.swap X2 y2 w.heap.size ds (h6.rb hr2 (Nat.le_refl _)) h6.size (by omega) (by omega)).mono ?_
        rintro e w8 ⟨rfl, h8⟩
        have h9 := h8.swap.drop
        clear h6 h8
        go_wp2
        go_roundw
        case rel => exact ⟨k + 1, (qb, putW qw ds), by omega, by go_num, by rw [Hpn.out, HS.out], h9⟩
        case measure => simp [intOf]; omega
      · have HS := Lib.hid (stepOp_write (p := (qb, qw)) (o := ⟨kd, ds, ks⟩) (.inr hk1))
        go_wp2_with fail
        obtain ⟨wo, hwo⟩ : ∃ x, x = wr.alloc (.cells #[.int .i64 kd, .slice X2 ds.length y2, .slice X3 ks.length y3] 34) := ⟨_, rfl⟩
        rw [← hwo] at h6
        rw [← hwo]
        clear hwo
        refine (rfAppend_any h6.swap X2 y2 w.heap.size ds (h6.rb hr2 (Nat.le_refl _)) h6.size (by omega) (by omega)).mono ?_
        rintro e w8 ⟨rfl, h8⟩
        have h9 := h8.swap.drop
        clear h6 h8
        go_wp2
        go_roundw
        case rel => exact ⟨k + 1, (qb, putW qw ds), by omega, by go_num, by rw [Hpn.out, HS.out], h9⟩
        case measure => simp [intOf]; omega
      · have HS := Lib.hid (stepOp_sync (p := (qb, qw)) (o := ⟨kd, ds, ks⟩) hk2)
        go_wp2_with fail
        obtain ⟨wo, hwo⟩ : ∃ x, x = wr.alloc (.cells #[.int .i64 kd, .slice X2 ds.length y2, .slice X3 ks.length y3] 34) := ⟨_, rfl⟩
        rw [← hwo] at h6
        rw [← hwo]
        clear hwo
        refine (rfSync_any h6.drop (by omega) (by omega)).mono ?_
        rintro e w8 ⟨rfl, h8⟩
        clear h6
        go_wp2
        go_roundw
        case rel => exact ⟨k + 1, (seenOf qb qw, []), by omega, by go_num, by rw [Hpn.out, HS.out], h8⟩
        case measure => simp [intOf]; omega
      · have HS := Lib.hid (stepOp_look (p := (qb, qw)) (o := ⟨kd, ds, ks⟩) hk4.1 hk4.2.1 hk4.2.2)
        obtain ⟨z0, z1, z2⟩ := hk4
        go_wp2
        go_roundw
        case rel => exact ⟨k + 1, (qb, qw), by omega, by go_num, by rw [Hpn.out, HS.out], h6.drop⟩
        case measure => simp [intOf]; omega
    · obtain rfl : k = L.length := by omega
      rw [List.take_length, ← Hp.out] at hp
      subst hp
      simp only at h5
      have hr := h5.rl hks (Nat.le_refl _)
      have hsz := h5.size
      have h6 := h5.newNil bvl 4 rfl
      have hnil : (([] : List Bool).length + ks.length) * 1 ≤ 140737488355328 := by simp; omega
      have hal := aft_len pb pw ks
      obtain ⟨R, hR⟩ : ∃ R, R = aft pb 0 pw ks := ⟨_, rfl⟩
      rw [← hR] at hal
      have HR := Lib.hid hR
      have Hl : Hid (R.length ≤ maxLen) := Lib.hid (by unfold maxLen; omega)
      obtain ⟨T, hT⟩ : ∃ T, T = seenOf pb pw := ⟨_, rfl⟩
      rw [← hT] at hal hpl
      have HT := Lib.hid hT
      have Ht : Hid (T.length ≤ maxLen) := Lib.hid (by unfold maxLen; omega)
      clear h5 hR hT
      go_wp2_with (at_builtin; refine wpList_append_list _ rfl _ _ 32 rfl 0 4 j0 (.bool false) 1 Try.underlying32 hj hy0 hy1 hy2 rfl _ [] (by rfl) h6.ol A2 c2 w.heap.size ks ks.length rfl (by rfl) (hr.alloc hsz _) hnil (by omega) (Nat.zero_le _) ?_; intro v7 w7 hown7 hg7 hat7; have h7 := Lib.hid (h6.grewOl hown7 hg7 hat7 (Nat.le_refl _)); rw [List.nil_append] at h7; obtain ⟨A7, c7, rfl, -, -, -, -⟩ := h7.out.ol.form; clear hown7 hg7 hat7 h6)
      refine (After_any h7.out.bring2 A7 c7 ks h7.out.ol.reads.2.1 (by rw [← HT.out]; omega) (by omega) (by omega) Hpn.out).mono ?_
      rintro e w8 ⟨v8, rfl, h8⟩
      rw [← HR.out] at h8
      obtain ⟨A8, c8, rfl, -, -, -, -⟩ := h8.ob.form
      clear h7
      go_wp2_with fail
      refine (rfAfter_any h8.bring3 A2 c2 ks ((h8.rl hks (Nat.le_refl _)).more h8.size) (by rw [← HT.out]; omega) (by omega) (by omega)).mono ?_
      rintro e w9 ⟨v9, rfl, h9⟩
      rw [← HR.out] at h9
      obtain ⟨A9, c9, rfl, -, -, -, -⟩ := h9.ob.form
      clear h8
      go_wp2_with fail
      refine (same_yes A8 A9 R.length c8 c9 _ _ R _ h9.bring2.ob.reads.2.1 h9.ob.reads.2.1 rfl Hl.out).mono ?_
      rintro e w10 ⟨rfl, n10, rfl⟩
      have h10 := h9.drop.drewN n10
      clear h9
      go_wp2_with fail
      refine (Seen_any h10.bring2 (by rw [← HT.out]; omega)).mono ?_
      rintro e w11 ⟨v11, rfl, h11⟩
      rw [← HT.out] at h11
      obtain ⟨A11, c11, rfl, -, -, -, -⟩ := h11.ob.form
      clear h10
      go_wp2_with fail
      refine (rfSeen_any h11.bring2 (by rw [← HT.out]; omega) (by omega)).mono ?_
      rintro e w12 ⟨v12, rfl, h12⟩
      rw [← HT.out] at h12
      obtain ⟨A12, c12, rfl, -, -, -, -⟩ := h12.ob.form
      clear h11
      go_wp2_with fail
      refine (same_yes A11 A12 T.length c11 c12 _ _ T _ h12.bring2.ob.reads.2.1 h12.ob.reads.2.1 rfl Ht.out).mono ?_
      rintro e w13 ⟨rfl, n13, rfl⟩
      have hbel := (h12.drewN n13).bel
      clear h12
      go_wp2
      go_ret
      exact ⟨rfl, hbel⟩

/-! ### THE ROW's STEP -/
theorem own : ownKnob Try.prog.godebug = none := by kernel_rfl
theorem laidOut : laidOutB Try.prog = true := by kernel_rfl

theorem contract (H : Type) (enc : TypeId × Value → H) (W : World) (base : Nat) (args : Array Value) (ds gs : List (DataW H)) (before : List MemPlace)
    (hval0 : ∀ (j : Nat) t v, Try.f4.params[j]? = some t → args[j]? = some v → Value.okWide Try.prog W .any base t v)
    (hW : DataW.Whole enc Try.prog Try.f4.params.toList Rows.spoolAfterSpec.vars false W args.toList ds gs before)
    (hk : Rows.uptoSmall H (ds ++ gs) = true)
    (hsz : (DataW.weightsEach Try.prog (Try.f4.params.toList ++ (Rows.OpenSpec.upto Rows.spoolAfterSpec).bare.plain.varTypes Try.prog) (ds ++ gs)).all (· ≤ reachBytes) = true) :
    Calls Try.prog 4 args W fun e W' => ∃ v, e = .returned v ∧ Rows.spoolAfterSpec.post enc Try.prog Try.f4 false true false false W args v W' := by
  have hval : ∀ (j : Nat) t v, Try.f4.params[j]? = some t → args[j]? = some v → Value.okWide Try.prog W .any base t v := hval0
  have hW' := hW
  obtain ⟨p, q, hA0, hV, rfl, hfz, hnd⟩ := hW
  have hA : DataW.TrodAll enc Try.prog W 0 (fun _ => true) true Try.f4.params.toList args.toList ds p := hA0
  rw [Try.params4] at hA hval
  obtain ⟨v0, vs0, d0, ds0, p0, q0, hargs, rfl, rfl, h0, r0⟩ := trodAll_cons hA
  obtain ⟨v1, vs1, d1, ds1, p1, q1, rfl, rfl, rfl, h1, r1⟩ := trodAll_cons r0
  obtain ⟨v2, vs2, d2, ds2, p2, q2, rfl, rfl, rfl, h2, r2⟩ := trodAll_cons r1
  obtain ⟨rfl, rfl, rfl⟩ := trodAll_nil r2
  obtain rfl : args = #[v0, v1, v2] := by cases args; simp_all
  obtain ⟨rfl, rfl⟩ := trodVars_none hV
  have k0 := h0
  have lt0 : ∀ x ∈ p0, x.block < W.heap.size := by obtain ⟨m, hm⟩ := k0; exact DataW.trod_lt m _ _ _ hm
  have w0 := reach_at hsz (j := 0) rfl rfl
  have u0 : Rows.uptoBulk d0 ≤ 1048576 := bulk_at hk (by simp)
  have k1 := h1
  have lt1 : ∀ x ∈ p1, x.block < W.heap.size := by obtain ⟨m, hm⟩ := k1; exact DataW.trod_lt m _ _ _ hm
  have w1 := reach_at hsz (j := 1) rfl rfl
  have u1 : Rows.uptoBulk d1 ≤ 1048576 := bulk_at hk (by simp)
  have k2 := h2
  have lt2 : ∀ x ∈ p2, x.block < W.heap.size := by obtain ⟨m, hm⟩ := k2; exact DataW.trod_lt m _ _ _ hm
  have w2 := reach_at hsz (j := 2) rfl rfl
  have u2 : Rows.uptoBulk d2 ≤ 1048576 := bulk_at hk (by simp)
  clear hA0 hval0 hsz
  obtain ⟨A0, n0, c0, rfl⟩ := okWide_slice Try.underlying22 (hval 0 22 v0 rfl rfl)
  have ub0 := Nat.le_trans (bytes_bulk Try.underlying22 Try.underlying5 (by kernel_rfl) k0) u0
  obtain ⟨b0, rfl, rb0, cb0, mb0⟩ := open_bytes Try.underlying22 Try.underlying5 (by kernel_rfl) (by kernel_rfl) w0 h0
  obtain ⟨A1, n1, c1, rfl, hx1⟩ := open_opsU (hval 1 _ v1 rfl rfl) w1 h1 lt1 u1
  obtain ⟨A2, n2, c2, rfl, hx2⟩ := open_boolsU (hval 2 _ v2 rfl rfl) w2 h2 lt2 u2
  refine (walk W rb0 cb0 mb0 ub0 hx1 hx2).mono fun e W' ⟨he, bel⟩ => ?_
  subst he
  exact ⟨_, rfl, _, _, _, [], _, [], hW', trodAll_mk1 (shut_bool Try.underlying4 _), (trodAll_cons_mk (Below.trod laidOut (by kernel_rfl) (of_decide_eq_true (by kernel_rfl)) k0 bel lt0) (trodAll_cons_mk (Below.trod laidOut (by kernel_rfl) (of_decide_eq_true (by kernel_rfl)) k1 bel lt1) (trodAll_cons_mk (Below.trod laidOut (by kernel_rfl) (of_decide_eq_true (by kernel_rfl)) k2 bel lt2) trodAll_mk0))), rfl, bel.frame _, fun h => by cases h⟩

set_option maxRecDepth 100000 in
theorem lifted (os : Os) (started : os.Started) (H : Type) (enc : TypeId × Value → H) (F : Stop.Interp) :
    ReturnsInHanded {} Try.checked os 4 .any ((Rows.OpenSpec.upto Rows.spoolAfterSpec).pre6 enc Try.prog Try.f4 Rows.spoolAfterUptoRow.domain false) (((Rows.OpenSpec.upto Rows.spoolAfterSpec).at F).post enc Try.prog Try.f4 false true false false) := by
  refine returnsInHanded_of_cond_sized (C := Try.checked) (s := (Rows.OpenSpec.upto Rows.spoolAfterSpec)) (k := Rows.uptoSmall) rfl own started (by kernel_rfl) Try.func4
    (OpenSpec.witness (enc := enc) (C := Try.checked) (s := (Rows.OpenSpec.upto Rows.spoolAfterSpec)) (k := Rows.uptoSmall) rfl false ⟨#[], #[.slice none 0 0, .slice none 0 0, .slice none 0 0], []⟩ 8 (by kernel_rfl) (by kernel_rfl) (by kernel_rfl)
      (x := ([.nil, .nil, .nil], [], [])) (by kernel_rfl) rfl (by kernel_rfl)) ?_
  intro W base args ds gs before hval hW _ hk hsz _
  exact contract H enc W base args ds gs before hval hW hk hsz

/-- THE STATEMENT -/
theorem proved : Rows.SpoolAfterUptoSaid :=
  OpenClaim.holds_of_cond 4 Try.f4 rfl rfl rfl rfl rfl rfl rfl ⟨rfl, rfl, rfl, rfl, rfl⟩ rfl rfl rfl rfl rfl (by kernel_rfl) Try.func4 (by kernel_rfl)
    (of_decide_eq_true (by kernel_rfl)) (by unfold Func.isWrapper; rw [if_neg (of_decide_eq_false (by kernel_rfl))]; exact ⟨rfl, rfl⟩)
    (fun os started H enc _ F => lifted os started H enc F)
end Go.Proofs.Ytkpmnmgnfgfhaaa.spoolAfter
