/- Any bytes are read as a prop record, or refused, exactly, and written again. -/
import Derived.Test.YtpoaokkmmoeekaaOpen
import Derived.Test.YtpoaokkmmoeekaaRows
import Derived.Test.YtpoaokkmmoeekaaRcEql
import Derived.Test.YtpoaokkmmoeekaaRcOpen
import Derived.Test.YtpoaokkmmoeekaaRcSpeak
import Derived.Test.YtpoaokkmmoeekaaRcRefP
import Derived.Laws.StructEq
import Derived.Deep.QuietTactic
import Derived.BigQuiet
import Derived.Deep.RegionHeld3
import Derived.Deep.Cut
namespace Go.Proofs.Ytpoaokkmmoeekaa.reconePropBytes
open Go.ChangeShapes Go.WideShapes Go.ChangeAt Go.RowKit
open Go.ChangeMaps (open_string shut_string)
set_option linter.unusedVariables false

set_option maxRecDepth 100000 in
set_option maxHeartbeats 8000000 in
theorem walk (w : World) {A : Option Addr} {cap : Nat} {bs : List Nat} (rb : RB w w.heap.size A bs) (hc0 : bs.length ≤ cap) (hm0 : cap ≤ 140737488351232) : Calls Try.prog 8 #[.slice A bs.length cap] w fun e w' => e = .returned (.bool true) ∧ Below w.heap.size w w' := by
  have hby := rb.1
  have hc : bs.length ≤ cap ∧ cap ≤ 140737488351232 := ⟨hc0, hm0⟩
  have HSP := Lib.hid (speaks_any w)
  have hG := fun (A : Option Addr) (cap B : Nat) (W : World) (h : RB W B A bs) (hB : B ≤ W.heap.size) => GetProp_any A cap B bs W h hB (by omega)
  have hR := fun (W : World) (h : RB W w.heap.size A bs) (hB : w.heap.size ≤ W.heap.size) => refGetProp_any A cap w.heap.size bs W h hB hc.1 (by unfold maxLen; omega)
  have hCL := fun (W : World) (h : RB W w.heap.size A bs) (hB : w.heap.size ≤ W.heap.size) => clone_any A cap w.heap.size bs W h hB (by omega)
  have hE : getPropE bs = refGPE bs ∧ (refGPE bs = 0 → getPropV bs = propC bs) := by
    unfold refGPE
    by_cases hl : bs.length = 19
    · obtain ⟨h1, h2⟩ := getProp_read bs hby hl
      rw [if_pos hl]
      refine ⟨h1, fun h => h2 ?_⟩
      by_cases hq : (refPropOk (propC bs) && zeroP bs) = true
      · exact hq
      · rw [if_neg hq] at h; cases h
    · rw [if_neg hl]
      exact ⟨getProp_len bs hl, fun h => absurd h (by decide)⟩
  have hP : refGPE bs = 0 → ∀ W, Calls Try.prog 22 #[.agg #[.int .i64 (propC bs).ky, .int .i64 (propC bs).kd, .int .i64 (propC bs).nu, .int .i64 (propC bs).bl, .int .i64 (propC bs).pv, .int .i64 (propC bs).nx]] W fun e w' => ∃ v, e = .returned (.tuple #[v, .int .i64 0]) ∧ OB w' W.heap.size 5 v bs ∧ Below W.heap.size W w' := by
    intro h W
    unfold refGPE at h
    by_cases hl : bs.length = 19
    · rw [if_pos hl] at h
      have hq : (refPropOk (propC bs) && zeroP bs) = true := by
        by_cases hq : (refPropOk (propC bs) && zeroP bs) = true
        · exact hq
        · rw [if_neg hq] at h; cases h
      obtain ⟨hok, hz⟩ := (Bool.and_eq_true _ _).mp hq
      have hp : Calls Try.prog 22 #[.agg #[.int .i64 (propC bs).ky, .int .i64 (propC bs).kd, .int .i64 (propC bs).nu, .int .i64 (propC bs).bl, .int .i64 (propC bs).pv, .int .i64 (propC bs).nx]] W _ := putProp_clean (propC bs) (propCI bs hby hl) W
      unfold RefPut at hp
      rw [if_pos hok, if_pos hok, (propB_back bs hby hl hok).2 hz] at hp
      exact hp
    · rw [if_neg hl] at h; cases h
  unfold PropRead PropReadB at hG
  unfold PropReadB at hR
  have hNE := fun (W : World) => prop_neq (propC bs) W
  have hNZ := fun (W : World) => prop_neq ⟨0, 0, 0, 0, 0, 0⟩ W
  have hlen : bs.length ≤ maxLen := by unfold maxLen; omega
  obtain ⟨hE1, hE2⟩ := hE
  rw [hE1] at hG
  obtain ⟨E, hEE⟩ : ∃ E, E = refGPE bs := ⟨_, rfl⟩
  rw [← hEE] at hG hR hE2 hP
  obtain ⟨cc, hcc⟩ : ∃ cc : Array Value, cc = #[.int .i64 (propC bs).ky, .int .i64 (propC bs).kd, .int .i64 (propC bs).nu, .int .i64 (propC bs).bl, .int .i64 (propC bs).pv, .int .i64 (propC bs).nx] := ⟨_, rfl⟩
  obtain ⟨cz, hcz⟩ : ∃ cz : Array Value, cz = #[.int .i64 0, .int .i64 0, .int .i64 0, .int .i64 0, .int .i64 0, .int .i64 0] := ⟨_, rfl⟩
  have sc : cc.size = 6 := by rw [hcc]; rfl
  have sz : cz.size = 6 := by rw [hcz]; rfl
  have oc : cc.all (·.oneCell') = true := by rw [hcc, ← Array.all_toList]; rfl
  have oz : cz.all (·.oneCell') = true := by rw [hcz, ← Array.all_toList]; rfl
  have hic : (Try.prog.info? 53).map (·.size) = some cc.size := by rw [sc]; kernel_rfl
  have hiz : (Try.prog.info? 53).map (·.size) = some cz.size := by rw [sz]; kernel_rfl
  have HLEN := Lib.hid hlen
  have HCZ := Lib.hid hcz
  have HCC := Lib.hid hcc
  by_cases h0 : E = 0
  · rw [h0] at hG hR
    simp only [hE2 h0, if_true] at hG hR
    rw [← hcc] at hG hR hP
    have hP := hP h0
    have HG := Lib.hid hG
    have HR := Lib.hid hR
    have HP := Lib.hid hP
    have HCL := Lib.hid hCL
    clear hG hR hP hCL hE1 hE2 hEE hcc hcz hlen hNE hNZ hby h0
    have H0 := Lib.hid rb
    go_enter Try.func8, Try.ntmps8
    go_upto_region 5 with (first
      | (go_at_call 10; refine (HSP.out).mono ?_; rintro e w1 ⟨rfl, hb1⟩; have h1 := Lib.hid ((St.start Zf w).below hb1); have q1 := h1.out.rb H0.out (Nat.le_refl _); clear hb1)
      | (go_at_call 16; refine (HCL.out _ q1 h1.out.size).mono ?_; rintro e w2 ⟨v2, rfl, ho2, hb2⟩; have h2 := Lib.hid (h1.out.newOb ho2 hb2); obtain ⟨A2, c2, rfl, -, -, hr2, -⟩ := ho2.form; clear ho2 hb2 q1)
      | (go_at_call 24; refine (HG.out A2 c2 _ w2 hr2 (Nat.le_refl _)).mono ?_; rintro e w3 ⟨rfl, h3⟩; have h4 := (h2.out.below h3.bel).newBlk 53 cz; have r4 := h4.blk; have h5 := Lib.hid (h4.setRow cc); clear h3 h4)
      | (rw [← HCZ.out]; refine wpList_store_row rfl 53 _ _ rfl w3.heap.size cc rfl rfl 53 cz r4 hic (by rw [sz, sc]) oc ?_; obtain ⟨w5, hw5⟩ : ∃ w5, w5 = (w3.alloc (.cells cz 53)).setRow w3.heap.size cc := ⟨_, rfl⟩; rw [← hw5] at h5 ⊢; have q5 := h5.out.rb H0.out (Nat.le_refl _); clear r4 hw5)
      | (go_at_call 25; refine (HR.out w5 q5 h5.out.size).mono ?_; rintro e w6 ⟨rfl, h6⟩; have h7 := (h5.out.below h6.bel).newBlk 53 cz; have r7 := h7.blk; have h8 := Lib.hid (h7.setRow cc); clear h6 h7)
      | (rw [← HCZ.out]; refine wpList_store_row rfl 53 _ _ rfl w6.heap.size cc rfl rfl 53 cz r7 hic (by rw [sz, sc]) oc ?_; clear r7))
    obtain ⟨w8, hw8⟩ : ∃ w8, w8 = (w6.alloc (.cells cz 53)).setRow w6.heap.size cc := ⟨_, rfl⟩
    rw [← hw8] at h8 ⊢
    have h9 := h8.out
    rw [HCC.out] at h9
    obtain ⟨c0, c1, c2, c3, c4, c5⟩ := cellsprop h9
    obtain ⟨d0, d1, d2, d3, d4, d5⟩ := cellsprop h9.swap
    have HPX := HP.out w8
    rw [HCC.out] at HPX
    have HPX := Lib.hid HPX
    clear h9 hw8
    go_wp2_with (first
      | (go_at_call 22; refine (HPX.out).mono ?_; rintro e w9 ⟨v9, rfl, ho9, hb9⟩; have h10 := Lib.hid (h8.out.newOb ho9 hb9); obtain ⟨A9, c9, rfl, -, -, hr9, -⟩ := ho9.form; have S9 := Lib.hid (same_yes A9 A bs.length c9 cap _ _ bs w9 hr9 (h10.out.rb H0.out (Nat.le_refl _)) rfl HLEN.out); clear ho9 hb9 hr9)
      | (go_at_call 13; refine (S9.out).mono ?_; rintro e w11 ⟨rfl, n11, hw11⟩; have h12 := Lib.hid (h10.out.drewN n11); rw [← hw11] at h12; clear hw11))
    go_ret
    exact ⟨rfl, h12.out.bel⟩
  · have hb0 : (E != 0) = true := by simpa using h0
    simp only [if_neg h0] at hG hR
    rw [← hcz] at hG hR
    have HG := Lib.hid hG
    have HR := Lib.hid hR
    have HCL := Lib.hid hCL
    clear hG hR hP hCL hE1 hE2 hEE hcc hcz hlen hNE hNZ hby h0 oc hic
    have H0 := Lib.hid rb
    go_enter Try.func8, Try.ntmps8
    go_upto_region 5 with (first
      | (go_at_call 10; refine (HSP.out).mono ?_; rintro e w1 ⟨rfl, hb1⟩; have h1 := Lib.hid ((St.start Zf w).below hb1); have q1 := h1.out.rb H0.out (Nat.le_refl _); clear hb1)
      | (go_at_call 16; refine (HCL.out _ q1 h1.out.size).mono ?_; rintro e w2 ⟨v2, rfl, ho2, hb2⟩; have h2 := Lib.hid (h1.out.newOb ho2 hb2); obtain ⟨A2, c2, rfl, -, -, hr2, -⟩ := ho2.form; clear ho2 hb2 q1)
      | (go_at_call 24; refine (HG.out A2 c2 _ w2 hr2 (Nat.le_refl _)).mono ?_; rintro e w3 ⟨rfl, h3⟩; have h4 := (h2.out.below h3.bel).newBlk 53 cz; have r4 := h4.blk; have h5 := Lib.hid (h4.setRow cz); clear h3 h4)
      | (rw [← HCZ.out]; refine wpList_store_row rfl 53 _ _ rfl w3.heap.size cz rfl rfl 53 cz r4 hiz rfl oz ?_; obtain ⟨w5, hw5⟩ : ∃ w5, w5 = (w3.alloc (.cells cz 53)).setRow w3.heap.size cz := ⟨_, rfl⟩; rw [← hw5] at h5 ⊢; have q5 := h5.out.rb H0.out (Nat.le_refl _); clear r4 hw5)
      | (go_at_call 25; refine (HR.out w5 q5 h5.out.size).mono ?_; rintro e w6 ⟨rfl, h6⟩; have h7 := (h5.out.below h6.bel).newBlk 53 cz; have r7 := h7.blk; have h8 := Lib.hid (h7.setRow cz); clear h6 h7)
      | (rw [← HCZ.out]; refine wpList_store_row rfl 53 _ _ rfl w6.heap.size cz rfl rfl 53 cz r7 hiz rfl oz ?_; clear r7))
    obtain ⟨w8, hw8⟩ : ∃ w8, w8 = (w6.alloc (.cells cz 53)).setRow w6.heap.size cz := ⟨_, rfl⟩
    rw [← hw8] at h8 ⊢
    have h9 := h8.out
    rw [HCZ.out] at h9
    obtain ⟨c0, c1, c2, c3, c4, c5⟩ := cellsprop h9
    obtain ⟨d0, d1, d2, d3, d4, d5⟩ := cellsprop h9.swap
    clear h9 hw8
    go_wp2
    go_ret
    exact ⟨rfl, h8.out.bel⟩

/-! ### THE ROW's STEP -/
theorem own : ownKnob Try.prog.godebug = none := by kernel_rfl
theorem laidOut : laidOutB Try.prog = true := by kernel_rfl

set_option maxRecDepth 100000 in
theorem contract (H : Type) (enc : TypeId × Value → H) (W : World) (base : Nat) (args : Array Value) (ds gs : List (DataW H)) (before : List MemPlace)
    (hval0 : ∀ (j : Nat) t v, Try.f8.params[j]? = some t → args[j]? = some v → Value.okWide Try.prog W .any base t v)
    (hW : DataW.Whole enc Try.prog Try.f8.params.toList Rows.reconePropBytesSpec.vars false W args.toList ds gs before)
    (hsz : (DataW.weightsEach Try.prog (Try.f8.params.toList ++ (OpenSpec.ofChange Rows.reconePropBytesSpec).bare.plain.varTypes Try.prog) (ds ++ gs)).all (· ≤ reachBytes) = true) :
    Calls Try.prog 8 args W fun e W' => ∃ v, e = .returned v ∧ Rows.reconePropBytesSpec.post enc Try.prog Try.f8 false true false false W args v W' := by
  have hval : ∀ (j : Nat) t v, Try.f8.params[j]? = some t → args[j]? = some v → Value.okWide Try.prog W .any base t v := hval0
  have hW' := hW
  obtain ⟨p, q, hA0, hV, rfl, hfz, hnd⟩ := hW
  have hA : DataW.TrodAll enc Try.prog W 0 (fun _ => true) true Try.f8.params.toList args.toList ds p := hA0
  rw [Try.params8] at hA hval
  obtain ⟨v0, vs0, d0, ds0, p0, q0, hargs, rfl, rfl, h0, r0⟩ := trodAll_cons hA
  obtain ⟨rfl, rfl, rfl⟩ := trodAll_nil r0
  obtain rfl : args = #[v0] := by cases args; simp_all
  obtain ⟨rfl, rfl⟩ := trodVars_none hV
  have k0 := h0
  have lt0 : ∀ x ∈ p0, x.block < W.heap.size := by obtain ⟨m, hm⟩ := k0; exact DataW.trod_lt m _ _ _ hm
  have w0 := reach_at hsz (j := 0) rfl rfl
  clear hA0 hval0 hsz
  obtain ⟨A0, n0, c0, rfl⟩ := okWide_slice Try.underlying26 (hval 0 26 v0 rfl rfl)
  obtain ⟨b0, rfl, rb0, cb0, mb0⟩ := open_bytes Try.underlying26 Try.underlying5 (by kernel_rfl) (by kernel_rfl) w0 h0
  refine (walk W rb0 cb0 mb0).mono fun e W' ⟨he, bel⟩ => ?_
  subst he
  exact ⟨_, rfl, _, _, _, [], _, [], hW', trodAll_mk1 (shut_bool Try.underlying4 _), (trodAll_cons_mk (Below.trod laidOut (by kernel_rfl) (of_decide_eq_true (by kernel_rfl)) k0 bel lt0) trodAll_mk0), rfl, bel.frame _, fun h => by cases h⟩

set_option maxRecDepth 100000 in
theorem lifted (os : Os) (started : os.Started) (H : Type) (enc : TypeId × Value → H) :
    ReturnsInHanded {} Try.checked os 8 .any (Rows.reconePropBytesSpec.pre6 enc Try.prog Try.f8 Rows.reconePropBytesRow.domain false) (Rows.reconePropBytesSpec.post enc Try.prog Try.f8 false true false false) := by
  refine returnsInHanded_of_change_sized (C := Try.checked) own started (by kernel_rfl) Try.func8
    (ChangeSpec.witness6 (enc := enc) (C := Try.checked) false ⟨#[], #[.slice none 0 0], []⟩ 8 (by kernel_rfl) (by kernel_rfl) (by kernel_rfl) (by kernel_rfl)) ?_
  intro W base args ds gs before hval hW _ hsz _
  exact contract H enc W base args ds gs before hval hW hsz

/-- THE STATEMENT -/
theorem proved : Rows.ReconePropBytesSaid :=
  OpenClaim.holds_of_wide 8 Try.f8 rfl rfl rfl rfl rfl rfl rfl ⟨rfl, rfl, rfl, rfl, rfl⟩ rfl rfl rfl rfl rfl (by kernel_rfl) Try.func8 (by kernel_rfl)
    (of_decide_eq_true (by kernel_rfl)) (by unfold Func.isWrapper; rw [if_neg (of_decide_eq_false (by kernel_rfl))]; exact ⟨rfl, rfl⟩)
    (fun os started H enc _ => lifted os started H enc)
end Go.Proofs.Ytpoaokkmmoeekaa.reconePropBytes
