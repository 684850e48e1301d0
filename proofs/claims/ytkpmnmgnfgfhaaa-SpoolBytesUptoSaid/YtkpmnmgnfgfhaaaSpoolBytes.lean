/- For all bytes, scripts and lists of what is kept (of at most 1048576 values): what is left begins with the safe bytes, and every byte of it is the one that was seen there, or 0. -/
import Derived.Test.YtkpmnmgnfgfhaaaOpen
import Derived.Test.YtkpmnmgnfgfhaaaRows
import Derived.Test.YtkpmnmgnfgfhaaaBulk
import Derived.Deep.CondSized
import Derived.Test.YtkpmnmgnfgfhaaaSpSpeak
import Derived.Test.YtkpmnmgnfgfhaaaApList
import Derived.Deep.QuietTactic
import Derived.BigQuiet
import Derived.Deep.RegionHeld3
import Derived.Deep.Cut
namespace Go.Proofs.Ytkpmnmgnfgfhaaa.spoolBytes
open Go.ChangeShapes Go.WideShapes Go.ChangeAt Go.RowKit
open Go.ChangeMaps (open_string shut_string)
set_option linter.unusedVariables false

set_option maxRecDepth 100000 in
set_option maxHeartbeats 2000000 in
theorem walk (w : World) {A0 : Option Addr} {c0 : Nat} {b : List Nat} (hb : RB w w.heap.size A0 b) (hbc : b.length ≤ c0) (hcm : c0 ≤ 140737488351232) (hbu : b.length + 1 ≤ 1048576)
    {A1 : Option Addr} {n1 c1 : Nat} (hx1 : ∃ L : List Opv, L.length = n1 ∧ Ops w w.heap.size A1 L ∧ n1 ≤ 140737488351232 ∧ opsBulk L + 1 ≤ 1048576)
    {A2 : Option Addr} {n2 c2 : Nat} (hx2 : ∃ ks : List Bool, ks.length = n2 ∧ RL bvl w w.heap.size A2 ks ∧ n2 + 1 ≤ 1048576) :
    Calls Try.prog 6 #[.slice A0 b.length c0, .slice A1 n1 c1, .slice A2 n2 c2] w fun e w' => e = .returned (.bool true) ∧ Below w.heap.size w w' := by
  obtain ⟨L, rfl, hops, hn1, hu⟩ := hx1
  obtain ⟨ks, rfl, hks, hku⟩ := hx2
  obtain ⟨j0, hj, hy0, hy1, hy2⟩ := info_parts bool_info
  have hpb := spBulk_play b L
  have hpn := play_ne b L
  have hpf := play_fewer b L
  have hpg := play_begins b L
  unfold spBulk at hpb
  obtain ⟨p, hp⟩ : ∃ p, p = play b L := ⟨_, rfl⟩
  rw [← hp] at hpb hpn hpf hpg
  obtain ⟨pb, pw⟩ := p
  simp only at hpb hpn hpf hpg
  have Hp := Lib.hid hp
  have Hpn := Lib.hid hpn
  have Hpg := Lib.hid hpg
  have hpl : (seenOf pb pw).length ≤ 2097152 := by omega
  have hpl2 : pw.length ≤ 2097152 := by omega
  have hpl3 : pb.length ≤ (seenOf pb pw).length := by simp [seenOf]
  have hal := aft_len pb pw ks
  obtain ⟨R, hR⟩ : ∃ R, R = aft pb 0 pw ks := ⟨_, rfl⟩
  obtain ⟨T, hT⟩ : ∃ T, T = seenOf pb pw := ⟨_, rfl⟩
  rw [← hR, ← hT] at hal
  rw [← hT] at hpl hpl3
  have HR := Lib.hid hR
  have HT := Lib.hid hT
  have Hl : Hid (R.length ≤ maxLen) := Lib.hid (by unfold maxLen; omega)
  have Ht : Hid (T.length ≤ maxLen) := Lib.hid (by unfold maxLen; omega)
  have Hb : Hid (pb.length ≤ maxLen) := Lib.hid (by unfold maxLen; omega)
  clear hp hpn hpg hR hT hpb
  go_enter Try.func6, Try.ntmps6
  go_wp2_with fail
  refine (speaks7_any w).mono ?_
  rintro e w1 ⟨rfl, hb1⟩
  have h1 : St Zf [] w w1 := (St.start Zf w).below hb1
  clear hb1
  go_wp2_with fail
  refine (run_any h1 hb hops hn1 (by omega)).mono ?_
  rintro e w2 ⟨g, rfl, h2⟩
  rw [← Hp.out] at h2
  simp only at h2
  clear h1
  have hrt : ∃ t, R = pb ++ t := by rw [HR.out]; exact aft_prefix _ _ _ _
  have hTp : T = pb ++ pw.flatten := HT.out
  have hbt : ∃ t, T = b ++ t := by
    obtain ⟨t, ht⟩ := Hpg.out
    exact ⟨t ++ pw.flatten, by rw [hTp, ht, List.append_assoc]⟩
  have hby := (aft_bytes pw pb pb 0 ks (fun i _ => .inl rfl) (by simp)).2
  have hRl : pb.length ≤ R.length := by obtain ⟨t, ht⟩ := hrt; rw [ht]; simp
  have hbp : b.length ≤ pb.length := by obtain ⟨t, ht⟩ := Hpg.out; rw [ht]; simp
  have HB : Hid (∀ i, i < R.length → nth R i = nth T i ∨ nth R i = 0) := Lib.hid fun i hi => by
    rw [HR.out] at hi ⊢
    rw [hTp]
    exact hby i hi
  have HF : Hid (∀ i, i < pb.length → nth R i = nth pb i ∧ nth T i = nth pb i) := Lib.hid fun i hi => by
    obtain ⟨t, ht⟩ := hrt
    rw [ht, hTp]
    unfold nth
    rw [List.getD_eq_getElem?_getD, List.getD_eq_getElem?_getD, List.getD_eq_getElem?_getD, List.getElem?_append_left hi, List.getElem?_append_left hi]
    exact ⟨rfl, rfl⟩
  have Hbt := Lib.hid hbt
  clear hrt hTp hbt hby
  go_wp2_with fail
  refine (Seen_any h2 (by rw [← HT.out]; omega)).mono ?_
  rintro e w3 ⟨v3, rfl, h3⟩
  rw [← HT.out] at h3
  obtain ⟨As, cs, rfl, -, -, -, -⟩ := h3.ob.form
  clear h2
  go_wp2_with fail
  refine (Safe_any h3.swap (by omega)).mono ?_
  rintro e w4 ⟨v4, rfl, h4⟩
  obtain ⟨Af, cf, rfl, -, -, -, -⟩ := h4.ob.form
  clear h3
  have hr := h4.rl hks (Nat.le_refl _)
  have hsz := h4.size
  have hq := h4.newNil bvl 4 rfl
  have hnil : (([] : List Bool).length + ks.length) * 1 ≤ 140737488355328 := by simp; omega
  clear h4
  go_wp2_with (at_builtin; refine wpList_append_list _ rfl _ _ 32 rfl 0 4 j0 (.bool false) 1 Try.underlying32 hj hy0 hy1 hy2 rfl _ [] (by rfl) hq.ol A2 c2 w.heap.size ks ks.length rfl (by rfl) (hr.alloc hsz _) hnil (by omega) (Nat.zero_le _) ?_; intro v5 w5 hown hg hat; have h5 := Lib.hid (hq.grewOl hown hg hat (Nat.le_refl _)); rw [List.nil_append] at h5; obtain ⟨Akk, ckk, rfl, -, -, -, -⟩ := h5.out.ol.form; clear hown hg hat hq hr)
  replace h5 := h5.out
  refine (After_any h5.bring2 Akk ckk ks h5.ol.reads.2.1 (by rw [← HT.out]; omega) (by omega) (by omega) Hpn.out).mono ?_
  rintro e w6 ⟨v6, rfl, h6⟩
  rw [← HR.out] at h6
  obtain ⟨Al, cl, rfl, -, -, -, -⟩ := h6.ob.form
  clear h5
  have rs := h6.bring4.ob.reads.2.1
  have rb : RB w6 w6.heap.size As b := by
    obtain ⟨t, ht⟩ := Hbt.out
    rw [ht] at rs
    exact rs.begin
  have hsc : T.length ≤ cs := h6.bring4.ob.reads.2.2.1
  have hbT : b.length ≤ T.length := by omega
  have t1 : decide (R.length < pb.length) = false := by simp; omega
  have t2 : decide (T.length < R.length) = false := by simp; omega
  have t3 : decide (pb.length < b.length) = false := by simp; omega
  have hb0 : (0 : Int) ≤ (b.length : Int) := by omega
  have hbs : (b.length : Int) ≤ (cs : Int) := by omega
  have hlb : Hid (b.length ≤ maxLen) := Lib.hid (by unfold maxLen; omega)
  have rw0 := h6.rb hb (Nat.le_refl _)
  go_wp2_with fail
  refine (same_yes As A0 b.length cs c0 _ _ b _ rb rw0 rfl hlb.out).mono ?_
  rintro e wq ⟨rfl, nq, hwq⟩
  have hh := h6.drewN nq
  rw [← hwq] at hh
  clear hwq h6 rs rb rw0
  have gl := hh.ob.reads.2.1
  have gs := hh.bring4.ob.reads.2.1
  have gf := hh.bring3.ob.reads.2.1
  have hbel := hh.bel
  clear hh
  go_wp2
  go_loopw [58] (fun i wr => ∃ k n : Nat, k ≤ R.length ∧ i = .int .i64 k ∧ wr = wq.drewN n) (fun i _ => R.length - (intOf i).toNat)
  case atStart => exact ⟨0, 0, Nat.zero_le _, rfl, rfl⟩
  case round =>
    obtain ⟨k, n, hk, rfl, rfl⟩ := hrel
    by_cases hlt : k < R.length
    · obtain ⟨lb, lo, rfl, -, hcl⟩ := gl.at_ hlt
      obtain ⟨sb, so, rfl, -, hcs⟩ := gs.at_ (k := k) (by omega)
      have b1 := gl.1.nth k
      have b2 := gs.1.nth k
      by_cases hf : k < pb.length
      · obtain ⟨fb, fo, rfl, -, hcf⟩ := gf.at_ hf
        obtain ⟨e1, e2⟩ := HF.out k hf
        have x1 : ((nth R k : Int) != (nth pb k : Int)) = false := by rw [e1]; simp
        have x2 : ((nth R k : Int) != (nth T k : Int)) = false := by rw [e1, e2]; simp
        have x3 : decide (k < pb.length) = true := by simpa using hf
        clear e1 e2
        go_wp2
        go_quiet (fail)
        go_wp2
        go_roundw
        case rel => exact ⟨k + 1, n + nq, by omega, by go_num, rfl⟩
        case measure => simp [intOf]; omega
      · have x3 : decide (k < pb.length) = false := by simpa using hf
        by_cases hx : nth R k = nth T k
        · have x2 : ((nth R k : Int) != (nth T k : Int)) = false := by rw [hx]; simp
          clear hx
          go_wp2
          go_quiet (fail)
          go_wp2
          go_roundw
          case rel => exact ⟨k + 1, n + nq, by omega, by go_num, rfl⟩
          case measure => simp [intOf]; omega
        · have hz : nth R k = 0 := (HB.out k hlt).resolve_left hx
          have x2 : ((nth R k : Int) != (nth T k : Int)) = true := by rw [bne_iff_ne]; omega
          have x4 : ((nth R k : Int) != 0) = false := by rw [hz]; rfl
          clear hx hz
          go_wp2
          go_quiet (fail)
          go_wp2
          go_roundw
          case rel => exact ⟨k + 1, n + nq, by omega, by go_num, rfl⟩
          case measure => simp [intOf]; omega
    · go_wp2
      go_ret
      exact ⟨rfl, below_drewN hbel _⟩

/-! ### THE ROW's STEP -/
theorem own : ownKnob Try.prog.godebug = none := by kernel_rfl
theorem laidOut : laidOutB Try.prog = true := by kernel_rfl

theorem contract (H : Type) (enc : TypeId × Value → H) (W : World) (base : Nat) (args : Array Value) (ds gs : List (DataW H)) (before : List MemPlace)
    (hval0 : ∀ (j : Nat) t v, Try.f6.params[j]? = some t → args[j]? = some v → Value.okWide Try.prog W .any base t v)
    (hW : DataW.Whole enc Try.prog Try.f6.params.toList Rows.spoolBytesSpec.vars false W args.toList ds gs before)
    (hk : Rows.uptoSmall H (ds ++ gs) = true)
    (hsz : (DataW.weightsEach Try.prog (Try.f6.params.toList ++ (Rows.OpenSpec.upto Rows.spoolBytesSpec).bare.plain.varTypes Try.prog) (ds ++ gs)).all (· ≤ reachBytes) = true) :
    Calls Try.prog 6 args W fun e W' => ∃ v, e = .returned v ∧ Rows.spoolBytesSpec.post enc Try.prog Try.f6 false true false false W args v W' := by
  have hval : ∀ (j : Nat) t v, Try.f6.params[j]? = some t → args[j]? = some v → Value.okWide Try.prog W .any base t v := hval0
  have hW' := hW
  obtain ⟨p, q, hA0, hV, rfl, hfz, hnd⟩ := hW
  have hA : DataW.TrodAll enc Try.prog W 0 (fun _ => true) true Try.f6.params.toList args.toList ds p := hA0
  rw [Try.params6] at hA hval
  obtain ⟨v0, vs0, d0, ds0, p0, q0, hargs, rfl, rfl, h0, r0⟩ := trodAll_cons hA
  obtain ⟨v1, vs1, d1, ds1, p1, q1, rfl, rfl, rfl, h1, r1⟩ := trodAll_cons r0
  obtain ⟨v2, vs2, d2, ds2, p2, q2, rfl, rfl, rfl, h2, r2⟩ := trodAll_cons r1
  obtain ⟨rfl, rfl, rfl⟩ := trodAll_nil r2
  obtain rfl : args = #[v0, v1, v2] := by cases args; simp_all
  obtain ⟨rfl, rfl⟩ := trodVars_none hV
  have k0 := h0
  have lt0 : ∀ x ∈ p0, x.block < W.heap.size := by obtain ⟨m, hm⟩ := k0; exact DataW.trod_lt m _ _ _ hm
  have w0 := reach_at hsz (j := 0) rfl rfl
  have u0 : Rows.uptoBulk d0 ≤ 1048576 := bulk_at hk (by simp)
  have k1 := h1
  have lt1 : ∀ x ∈ p1, x.block < W.heap.size := by obtain ⟨m, hm⟩ := k1; exact DataW.trod_lt m _ _ _ hm
  have w1 := reach_at hsz (j := 1) rfl rfl
  have u1 : Rows.uptoBulk d1 ≤ 1048576 := bulk_at hk (by simp)
  have k2 := h2
  have lt2 : ∀ x ∈ p2, x.block < W.heap.size := by obtain ⟨m, hm⟩ := k2; exact DataW.trod_lt m _ _ _ hm
  have w2 := reach_at hsz (j := 2) rfl rfl
  have u2 : Rows.uptoBulk d2 ≤ 1048576 := bulk_at hk (by simp)
  clear hA0 hval0 hsz
  obtain ⟨A0, n0, c0, rfl⟩ := okWide_slice Try.underlying22 (hval 0 22 v0 rfl rfl)
  have ub0 := Nat.le_trans (bytes_bulk Try.underlying22 Try.underlying5 (by kernel_rfl) k0) u0
  obtain ⟨b0, rfl, rb0, cb0, mb0⟩ := open_bytes Try.underlying22 Try.underlying5 (by kernel_rfl) (by kernel_rfl) w0 h0
  obtain ⟨A1, n1, c1, rfl, hx1⟩ := open_opsU (hval 1 _ v1 rfl rfl) w1 h1 lt1 u1
  obtain ⟨A2, n2, c2, rfl, hx2⟩ := open_boolsU (hval 2 _ v2 rfl rfl) w2 h2 lt2 u2
  refine (walk W rb0 cb0 mb0 ub0 hx1 hx2).mono fun e W' ⟨he, bel⟩ => ?_
  subst he
  exact ⟨_, rfl, _, _, _, [], _, [], hW', trodAll_mk1 (shut_bool Try.underlying4 _), (trodAll_cons_mk (Below.trod laidOut (by kernel_rfl) (of_decide_eq_true (by kernel_rfl)) k0 bel lt0) (trodAll_cons_mk (Below.trod laidOut (by kernel_rfl) (of_decide_eq_true (by kernel_rfl)) k1 bel lt1) (trodAll_cons_mk (Below.trod laidOut (by kernel_rfl) (of_decide_eq_true (by kernel_rfl)) k2 bel lt2) trodAll_mk0))), rfl, bel.frame _, fun h => by cases h⟩

set_option maxRecDepth 100000 in
theorem lifted (os : Os) (started : os.Started) (H : Type) (enc : TypeId × Value → H) (F : Stop.Interp) :
    ReturnsInHanded {} Try.checked os 6 .any ((Rows.OpenSpec.upto Rows.spoolBytesSpec).pre6 enc Try.prog Try.f6 Rows.spoolBytesUptoRow.domain false) (((Rows.OpenSpec.upto Rows.spoolBytesSpec).at F).post enc Try.prog Try.f6 false true false false) := by
  refine returnsInHanded_of_cond_sized (C := Try.checked) (s := (Rows.OpenSpec.upto Rows.spoolBytesSpec)) (k := Rows.uptoSmall) rfl own started (by kernel_rfl) Try.func6
    (OpenSpec.witness (enc := enc) (C := Try.checked) (s := (Rows.OpenSpec.upto Rows.spoolBytesSpec)) (k := Rows.uptoSmall) rfl false ⟨#[], #[.slice none 0 0, .slice none 0 0, .slice none 0 0], []⟩ 8 (by kernel_rfl) (by kernel_rfl) (by kernel_rfl)
      (x := ([.nil, .nil, .nil], [], [])) (by kernel_rfl) rfl (by kernel_rfl)) ?_
  intro W base args ds gs before hval hW _ hk hsz _
  exact contract H enc W base args ds gs before hval hW hk hsz

/-- THE STATEMENT -/
theorem proved : Rows.SpoolBytesUptoSaid :=
  OpenClaim.holds_of_cond 6 Try.f6 rfl rfl rfl rfl rfl rfl rfl ⟨rfl, rfl, rfl, rfl, rfl⟩ rfl rfl rfl rfl rfl (by kernel_rfl) Try.func6 (by kernel_rfl)
    (of_decide_eq_true (by kernel_rfl)) (by unfold Func.isWrapper; rw [if_neg (of_decide_eq_false (by kernel_rfl))]; exact ⟨rfl, rfl⟩)
    (fun os started H enc _ F => lifted os started H enc F)
end Go.Proofs.Ytkpmnmgnfgfhaaa.spoolBytes
