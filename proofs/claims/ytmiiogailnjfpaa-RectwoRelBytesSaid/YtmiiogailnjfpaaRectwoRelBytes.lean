/- Any bytes are read as a relationship record, or refused, exactly, and written again. -/
import Derived.Test.YtmiiogailnjfpaaOpen
import Derived.Test.YtmiiogailnjfpaaRows
import Derived.Test.YtmiiogailnjfpaaRdSpeak
import Derived.Test.YtmiiogailnjfpaaRdRefRelTG
import Derived.Test.YtmiiogailnjfpaaRdSameRel
import Derived.Laws.StructEq
import Derived.Deep.QuietTactic
import Derived.BigQuiet
import Derived.Deep.RegionHeld3
import Derived.Deep.Cut
namespace Go.Proofs.Ytmiiogailnjfpaa.rectwoRelBytes
open Go.ChangeShapes Go.WideShapes Go.ChangeAt Go.RowKit
open Go.ChangeMaps (open_string shut_string)
set_option linter.unusedVariables false

set_option maxRecDepth 100000 in
set_option maxHeartbeats 8000000 in
theorem walk (w : World) {A : Option Addr} {cap : Nat} {bs : List Nat} (rb : RB w w.heap.size A bs) (hc0 : bs.length ≤ cap) (hm0 : cap ≤ 140737488351232) : Calls Try.prog 7 #[.slice A bs.length cap] w fun e w' => e = .returned (.bool true) ∧ Below w.heap.size w w' := by
  have hby := rb.1
  have HSP := Lib.hid (speaks_any w)
  have HRB := Lib.hid rb
  have hlen : bs.length ≤ maxLen := by unfold maxLen; omega
  have HCL : Hid (∀ (W : World) (h : RB W w.heap.size A bs) (hB : w.heap.size ≤ W.heap.size), Calls Try.prog 18 #[.slice A bs.length cap] W (NewB bs W)) := Lib.hid fun W h hB => clone_any A cap w.heap.size bs W h hB (by omega)
  obtain ⟨E, hE⟩ : ∃ E, E = refRelTGE bs := ⟨_, rfl⟩
  have HS := Lib.hid (fun (W : World) (l : List Ass) (hs : St Zf l w W) => (⟨hs.rb rb (Nat.le_refl _), hs.size⟩ : RB W w.heap.size A bs ∧ w.heap.size ≤ W.heap.size))
  obtain ⟨cz, hcz⟩ : ∃ cz : Array Value, cz = #[.bool false, .int .i64 0, .int .i64 0, .int .i64 0, .int .i64 0, .int .i64 0, .int .i64 0, .int .i64 0, .int .i64 0, .slice none 0 0] := ⟨_, rfl⟩
  have sz : cz.size = 10 := by rw [hcz]; rfl
  have oz : cz.all (·.oneCell') = true := by rw [hcz, ← Array.all_toList]; rfl
  have hiz : (Try.prog.info? 45).map (·.size) = some cz.size := by rw [sz]; kernel_rfl
  have HLEN := Lib.hid hlen
  have HCZ := Lib.hid hcz
  by_cases h0 : E = 0
  · rw [h0] at hE
    obtain ⟨hl, hok⟩ := refRelTGE_zero hE.symm
    obtain ⟨hG1, hG2, hG3⟩ := getRelT_read bs hby hl
    have hd : (bs.drop 30).length = 32 := by rw [List.length_drop]; omega
    have hG1 : getRelTE bs = 0 := by rw [hG1, if_pos hok]
    have HG : Hid (∀ (A' : Option Addr) (cap' : Nat) (l : List Ass) (W : World), Stable (Sep l) → St Zf l w W → RB W W.heap.size A' bs → Calls Try.prog 23 #[.slice A' bs.length cap'] W fun e w' => ∃ (a : Option Addr) (d : Nat) (cy : Array Value), Hid (cy = #[.bool true, .int .i64 (linkC bs).fr, .int .i64 (linkC bs).to, .int .i64 (linkC bs).fp, .int .i64 (linkC bs).tp, .int .i64 (linkC bs).fn, .int .i64 (linkC bs).tn, .int .i64 (linkC bs).ty, .int .i64 (linkC bs).pr, .slice a 32 d]) ∧ cy.size = 10 ∧ cy.all (·.oneCell') = true ∧ (Try.prog.info? 45).map (·.size) = some cy.size ∧ e = .returned (.tuple #[.agg cy, .int .i64 0]) ∧ St Zf (ObA 5 (.slice a 32 d) (bs.drop 30) :: l) w w') := Lib.hid fun A' cap' l W hst hW hr => by
      refine (GetRelT_any A' cap' _ bs W hr (Nat.le_refl _) (by omega)).mono ?_
      unfold RelTRead RelTReadB
      rw [hG1, hG2, hG3]
      rintro e w' ⟨a, b, d, rfl, h1⟩
      have e1 := h1.ob.reads.1
      rw [hd] at e1
      subst e1
      exact ⟨a, d, _, Lib.hid rfl, rfl, by rw [← Array.all_toList]; rfl, by kernel_rfl, rfl, hW.addSt h1⟩
    have HR : Hid (∀ (l : List Ass) (W : World), Stable (Sep l) → St Zf l w W → Calls Try.prog 25 #[.slice A bs.length cap] W fun e w' => ∃ (a : Option Addr) (d : Nat) (cy : Array Value), Hid (cy = #[.bool true, .int .i64 (linkC bs).fr, .int .i64 (linkC bs).to, .int .i64 (linkC bs).fp, .int .i64 (linkC bs).tp, .int .i64 (linkC bs).fn, .int .i64 (linkC bs).tn, .int .i64 (linkC bs).ty, .int .i64 (linkC bs).pr, .slice a 32 d]) ∧ cy.size = 10 ∧ cy.all (·.oneCell') = true ∧ (Try.prog.info? 45).map (·.size) = some cy.size ∧ e = .returned (.tuple #[.agg cy, .int .i64 0]) ∧ St Zf (ObA 5 (.slice a 32 d) (bs.drop 30) :: l) w w') := Lib.hid fun l W hst hW => by
      refine (refGetRelT_any A cap w.heap.size bs W (hW.rb rb (Nat.le_refl _)) hW.size hc0 (by unfold maxLen; omega)).mono ?_
      unfold RelTGet
      rw [← hE]
      rintro e w' ⟨a, b, d, S, hS, rfl, h1⟩
      have hS := hS rfl
      subst hS
      have e1 := h1.ob.reads.1
      rw [hd] at e1
      subst e1
      exact ⟨a, d, _, Lib.hid rfl, rfl, by rw [← Array.all_toList]; rfl, by kernel_rfl, rfl, hW.addSt h1⟩
    have HSM : Hid (∀ (a a2 : Option Addr) (d d2 : Nat) (W : World), RB W W.heap.size a (bs.drop 30) → RB W W.heap.size a2 (bs.drop 30) → Calls Try.prog 24 #[.agg #[.bool true, .int .i64 (linkC bs).fr, .int .i64 (linkC bs).to, .int .i64 (linkC bs).fp, .int .i64 (linkC bs).tp, .int .i64 (linkC bs).fn, .int .i64 (linkC bs).tn, .int .i64 (linkC bs).ty, .int .i64 (linkC bs).pr, .slice a 32 d], .agg #[.bool true, .int .i64 (linkC bs).fr, .int .i64 (linkC bs).to, .int .i64 (linkC bs).fp, .int .i64 (linkC bs).tp, .int .i64 (linkC bs).fn, .int .i64 (linkC bs).tn, .int .i64 (linkC bs).ty, .int .i64 (linkC bs).pr, .slice a2 32 d2]] W fun e w' => e = .returned (.bool true) ∧ Below W.heap.size W w') := Lib.hid fun a a2 d d2 W h1 h2 => sameRelT_yes (linkC bs) a a2 d d2 _ _ 32 (bs.drop 30) W hd h1 (Nat.le_refl _) h2 (Nat.le_refl _)
    have HP : Hid (∀ (a : Option Addr) (d : Nat) (W : World), RB W W.heap.size a (bs.drop 30) → Calls Try.prog 20 #[.agg #[.bool true, .int .i64 (linkC bs).fr, .int .i64 (linkC bs).to, .int .i64 (linkC bs).fp, .int .i64 (linkC bs).tp, .int .i64 (linkC bs).fn, .int .i64 (linkC bs).tn, .int .i64 (linkC bs).ty, .int .i64 (linkC bs).pr, .slice a 32 d]] W fun e w' => ∃ v, e = .returned (.tuple #[v, .int .i64 0]) ∧ OB w' W.heap.size 5 v bs ∧ Below W.heap.size W w') := Lib.hid fun a d W h => by
      have := PutRelT_any (linkC bs) a d _ (bs.drop 30) W h (Nat.le_refl _) (by omega)
      have hk : relTok (linkC bs) (bs.drop 30) = true := by unfold relTok; rw [hok, hd]; rfl
      rw [putRelTE_eq _ (linkIT bs hby (by omega)), putRelTB_eq _ (linkIT bs hby (by omega)), if_pos hk, if_pos rfl, relB_backT bs hby (by omega), hd] at this
      exact this
    clear hl hok hG1 hG2 hG3 hd hE h0 hlen hcz hby rb hc0 hm0 oz hiz
    go_enter Try.func7, Try.ntmps7
    go_upto_region 5 with (first
      | (go_at_call 11; refine (HSP.out).mono ?_; rintro e w1 ⟨rfl, hb1⟩; have h1 := Lib.hid ((St.start Zf w).below hb1); have p1 := HS.out _ _ h1.out; clear hb1)
      | (go_at_call 18; refine (HCL.out _ p1.1 p1.2).mono ?_; rintro e w2 ⟨v2, rfl, ho2, hb2⟩; have h2 := Lib.hid (h1.out.newOb ho2 hb2); obtain ⟨A2, c2, rfl, -, -, hr2, -⟩ := ho2.form; have HG2 := Lib.hid (HG.out A2 c2 _ w2 inferInstance h2.out hr2); clear ho2 hb2 p1 hr2)
      | (go_at_call 23; refine (HG2.out).mono ?_; rintro e w3 ⟨a3, e3, cy, Hcy, sy, oy, hiy, rfl, h3⟩; have h4 := h3.newBlk 45 cz; have r4 := h4.blk; have h5 := Lib.hid (h4.setRow cy); clear h3 h4)
      | (rw [← HCZ.out]; refine wpList_store_row rfl 45 _ _ rfl w3.heap.size cy rfl rfl 45 cz r4 hiy (by rw [sz, sy]) oy ?_; obtain ⟨w5, hw5⟩ : ∃ w5, w5 = (w3.alloc (.cells cz 45)).setRow w3.heap.size cy := ⟨_, rfl⟩; rw [← hw5] at h5 ⊢; have HR5 := Lib.hid (HR.out _ w5 inferInstance h5.out); clear hw5 r4)
      | (go_at_call 25; refine (HR5.out).mono ?_; rintro e w6 ⟨a6, e6, cw, Hcw, sw, ow, hiw, rfl, h6⟩; have h7 := h6.newBlk 45 cz; have r7 := h7.blk; have h8 := Lib.hid (h7.setRow cw); clear h6 h7)
      | (rw [← HCZ.out]; refine wpList_store_row rfl 45 _ _ rfl w6.heap.size cw rfl rfl 45 cz r7 hiw (by rw [sz, sw]) ow ?_; clear r7))
    obtain ⟨w8, hw8⟩ : ∃ w8, w8 = (w6.alloc (.cells cz 45)).setRow w6.heap.size cw := ⟨_, rfl⟩
    rw [← hw8] at h8 ⊢
    have h9 := h8.out
    rw [Hcw.out, Hcy.out] at h9
    obtain ⟨c0, c1, c2, c3, c4, c5, c6, c7, c8, c9⟩ := cellsrelT h9
    obtain ⟨d0, d1, d2, d3, d4, d5, d6, d7, d8, d9⟩ := cellsrelT h9.bring2
    have HS9 := Lib.hid (HSM.out a3 a6 e3 e6 w8 h9.bring3.ob.reads.2.1 h9.swap.ob.reads.2.1)
    have H9 := Lib.hid h9
    clear h9 hw8 h8
    go_wp2_with (first
      | (go_at_call 24; refine (HS9.out).mono ?_; rintro e w10 ⟨rfl, hb10⟩; have h10 := H9.out.below hb10; obtain ⟨d0, d1, d2, d3, d4, d5, d6, d7, d8, d9⟩ := cellsrelT h10.bring2; have HP10 := Lib.hid (HP.out a3 e3 w10 h10.bring3.ob.reads.2.1); have H10 := Lib.hid h10; clear h10 hb10)
      | (go_at_call 20; refine (HP10.out).mono ?_; rintro e w11 ⟨v11, rfl, ho11, hb11⟩; have h11 := Lib.hid (H10.out.newOb ho11 hb11); obtain ⟨A11, m11, rfl, -, -, -, -⟩ := ho11.form; have p11 := HS.out _ _ h11.out; have S11 := Lib.hid (same_yes A11 A bs.length m11 cap _ _ bs _ h11.out.ob.reads.2.1 p11.1 rfl HLEN.out); clear ho11 hb11 p11)
      | (go_at_call 15; refine (S11.out).mono ?_; rintro e w12 ⟨rfl, n12, hw12⟩; have h12 := Lib.hid (h11.out.drewN n12); rw [← hw12] at h12; clear hw12))
    go_ret
    exact ⟨rfl, h12.out.bel⟩
  · have hb0 : (E != 0) = true := by simpa using h0
    have hE2 : getRelTE bs = E := by rw [getRelTE_eq bs hby, hE]
    have HG : Hid (∀ (A' : Option Addr) (cap' : Nat) (l : List Ass) (W : World), Stable (Sep l) → St Zf l w W → RB W W.heap.size A' bs → Calls Try.prog 23 #[.slice A' bs.length cap'] W fun e w' => e = .returned (.tuple #[.agg cz, .int .i64 E]) ∧ St Zf l w w') := Lib.hid fun A' cap' l W hst hW hr => by
      refine (GetRelT_any A' cap' _ bs W hr (Nat.le_refl _) (by omega)).mono ?_
      unfold RelTRead RelTReadB
      rw [hE2, hcz]
      simp only [if_neg h0]
      rintro e w' ⟨a, b, d, rfl, h1⟩
      exact ⟨rfl, hW.below h1.bel⟩
    have HR : Hid (∀ (l : List Ass) (W : World), Stable (Sep l) → St Zf l w W → Calls Try.prog 25 #[.slice A bs.length cap] W fun e w' => e = .returned (.tuple #[.agg cz, .int .i64 E]) ∧ St Zf l w w') := Lib.hid fun l W hst hW => by
      refine (refGetRelT_any A cap w.heap.size bs W (hW.rb rb (Nat.le_refl _)) hW.size hc0 (by unfold maxLen; omega)).mono ?_
      unfold RelTGet
      rw [← hE, hcz]
      simp only [if_neg h0]
      rintro e w' hh
      first
        | (obtain ⟨a, b, d, S, hS, rfl, h1⟩ := hh; exact ⟨rfl, hW.below h1.bel⟩)
        | (obtain ⟨rfl, a, b, d, S, h1⟩ := hh; exact ⟨rfl, hW.below h1.bel⟩)
        | (obtain ⟨a, b, d, S, rfl, h1⟩ := hh; exact ⟨rfl, hW.below h1.bel⟩)
    have HSM : Hid (∀ (W : World), Calls Try.prog 24 #[.agg #[.bool false, .int .i64 0, .int .i64 0, .int .i64 0, .int .i64 0, .int .i64 0, .int .i64 0, .int .i64 0, .int .i64 0, .slice none 0 0], .agg #[.bool false, .int .i64 0, .int .i64 0, .int .i64 0, .int .i64 0, .int .i64 0, .int .i64 0, .int .i64 0, .int .i64 0, .slice none 0 0]] W fun e w' => e = .returned (.bool true) ∧ Below W.heap.size W w') := Lib.hid fun W => sameRelT_yes ⟨false, 0, 0, 0, 0, 0, 0, 0, 0⟩ none none 0 0 0 0 0 [] W rfl (RB.empty _ _ _) (Nat.zero_le _) (RB.empty _ _ _) (Nat.zero_le _)
    clear hE hE2 h0 hlen hcz hby rb hc0 hm0
    go_enter Try.func7, Try.ntmps7
    go_upto_region 5 with (first
      | (go_at_call 11; refine (HSP.out).mono ?_; rintro e w1 ⟨rfl, hb1⟩; have h1 := Lib.hid ((St.start Zf w).below hb1); have p1 := HS.out _ _ h1.out; clear hb1)
      | (go_at_call 18; refine (HCL.out _ p1.1 p1.2).mono ?_; rintro e w2 ⟨v2, rfl, ho2, hb2⟩; have h2 := Lib.hid (h1.out.newOb ho2 hb2); obtain ⟨A2, c2, rfl, -, -, hr2, -⟩ := ho2.form; have HG2 := Lib.hid (HG.out A2 c2 _ w2 inferInstance h2.out hr2); clear ho2 hb2 p1 hr2)
      | (go_at_call 23; refine (HG2.out).mono ?_; rintro e w3 ⟨rfl, h3⟩; have h4 := h3.newBlk 45 cz; have r4 := h4.blk; have h5 := Lib.hid (h4.setRow cz); clear h3 h4)
      | (rw [← HCZ.out]; refine wpList_store_row rfl 45 _ _ rfl w3.heap.size cz rfl rfl 45 cz r4 hiz rfl oz ?_; obtain ⟨w5, hw5⟩ : ∃ w5, w5 = (w3.alloc (.cells cz 45)).setRow w3.heap.size cz := ⟨_, rfl⟩; rw [← hw5] at h5 ⊢; have HR5 := Lib.hid (HR.out _ w5 inferInstance h5.out); clear hw5 r4)
      | (go_at_call 25; refine (HR5.out).mono ?_; rintro e w6 ⟨rfl, h6⟩; have h7 := h6.newBlk 45 cz; have r7 := h7.blk; have h8 := Lib.hid (h7.setRow cz); clear h6 h7)
      | (rw [← HCZ.out]; refine wpList_store_row rfl 45 _ _ rfl w6.heap.size cz rfl rfl 45 cz r7 hiz rfl oz ?_; clear r7))
    obtain ⟨w8, hw8⟩ : ∃ w8, w8 = (w6.alloc (.cells cz 45)).setRow w6.heap.size cz := ⟨_, rfl⟩
    rw [← hw8] at h8 ⊢
    have h9 := h8.out
    rw [HCZ.out] at h9
    obtain ⟨c0, c1, c2, c3, c4, c5, c6, c7, c8, c9⟩ := cellsrelT h9
    obtain ⟨d0, d1, d2, d3, d4, d5, d6, d7, d8, d9⟩ := cellsrelT h9.swap
    have HS9 := Lib.hid (HSM.out w8)
    clear h9 hw8
    go_wp2_with (go_at_call 24; refine (HS9.out).mono ?_; rintro e w10 ⟨rfl, hb10⟩; have h10 := Lib.hid (h8.out.below hb10); clear hb10)
    go_ret
    exact ⟨rfl, h10.out.bel⟩

/-! ### THE ROW's STEP -/
theorem own : ownKnob Try.prog.godebug = none := by kernel_rfl
theorem laidOut : laidOutB Try.prog = true := by kernel_rfl

set_option maxRecDepth 100000 in
theorem contract (H : Type) (enc : TypeId × Value → H) (W : World) (base : Nat) (args : Array Value) (ds gs : List (DataW H)) (before : List MemPlace)
    (hval0 : ∀ (j : Nat) t v, Try.f7.params[j]? = some t → args[j]? = some v → Value.okWide Try.prog W .any base t v)
    (hW : DataW.Whole enc Try.prog Try.f7.params.toList Rows.rectwoRelBytesSpec.vars false W args.toList ds gs before)
    (hsz : (DataW.weightsEach Try.prog (Try.f7.params.toList ++ (OpenSpec.ofChange Rows.rectwoRelBytesSpec).bare.plain.varTypes Try.prog) (ds ++ gs)).all (· ≤ reachBytes) = true) :
    Calls Try.prog 7 args W fun e W' => ∃ v, e = .returned v ∧ Rows.rectwoRelBytesSpec.post enc Try.prog Try.f7 false true false false W args v W' := by
  have hval : ∀ (j : Nat) t v, Try.f7.params[j]? = some t → args[j]? = some v → Value.okWide Try.prog W .any base t v := hval0
  have hW' := hW
  obtain ⟨p, q, hA0, hV, rfl, hfz, hnd⟩ := hW
  have hA : DataW.TrodAll enc Try.prog W 0 (fun _ => true) true Try.f7.params.toList args.toList ds p := hA0
  rw [Try.params7] at hA hval
  obtain ⟨v0, vs0, d0, ds0, p0, q0, hargs, rfl, rfl, h0, r0⟩ := trodAll_cons hA
  obtain ⟨rfl, rfl, rfl⟩ := trodAll_nil r0
  obtain rfl : args = #[v0] := by cases args; simp_all
  obtain ⟨rfl, rfl⟩ := trodVars_none hV
  have k0 := h0
  have lt0 : ∀ x ∈ p0, x.block < W.heap.size := by obtain ⟨m, hm⟩ := k0; exact DataW.trod_lt m _ _ _ hm
  have w0 := reach_at hsz (j := 0) rfl rfl
  clear hA0 hval0 hsz
  obtain ⟨A0, n0, c0, rfl⟩ := okWide_slice Try.underlying24 (hval 0 24 v0 rfl rfl)
  obtain ⟨b0, rfl, rb0, cb0, mb0⟩ := open_bytes Try.underlying24 Try.underlying5 (by kernel_rfl) (by kernel_rfl) w0 h0
  refine (walk W rb0 cb0 mb0).mono fun e W' ⟨he, bel⟩ => ?_
  subst he
  exact ⟨_, rfl, _, _, _, [], _, [], hW', trodAll_mk1 (shut_bool Try.underlying4 _), (trodAll_cons_mk (Below.trod laidOut (by kernel_rfl) (of_decide_eq_true (by kernel_rfl)) k0 bel lt0) trodAll_mk0), rfl, bel.frame _, fun h => by cases h⟩

set_option maxRecDepth 100000 in
theorem lifted (os : Os) (started : os.Started) (H : Type) (enc : TypeId × Value → H) :
    ReturnsInHanded {} Try.checked os 7 .any (Rows.rectwoRelBytesSpec.pre6 enc Try.prog Try.f7 Rows.rectwoRelBytesRow.domain false) (Rows.rectwoRelBytesSpec.post enc Try.prog Try.f7 false true false false) := by
  refine returnsInHanded_of_change_sized (C := Try.checked) own started (by kernel_rfl) Try.func7
    (ChangeSpec.witness6 (enc := enc) (C := Try.checked) false ⟨#[], #[.slice none 0 0], []⟩ 8 (by kernel_rfl) (by kernel_rfl) (by kernel_rfl) (by kernel_rfl)) ?_
  intro W base args ds gs before hval hW _ hsz _
  exact contract H enc W base args ds gs before hval hW hsz

/-- THE STATEMENT -/
theorem proved : Rows.RectwoRelBytesSaid :=
  OpenClaim.holds_of_wide 7 Try.f7 rfl rfl rfl rfl rfl rfl rfl ⟨rfl, rfl, rfl, rfl, rfl⟩ rfl rfl rfl rfl rfl (by kernel_rfl) Try.func7 (by kernel_rfl)
    (of_decide_eq_true (by kernel_rfl)) (by unfold Func.isWrapper; rw [if_neg (of_decide_eq_false (by kernel_rfl))]; exact ⟨rfl, rfl⟩)
    (fun os started H enc _ => lifted os started H enc)
end Go.Proofs.Ytmiiogailnjfpaa.rectwoRelBytes
