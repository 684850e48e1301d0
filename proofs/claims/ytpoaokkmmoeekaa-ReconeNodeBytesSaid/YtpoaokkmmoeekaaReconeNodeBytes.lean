/- Any bytes are read as a node record, or refused, exactly, and written again. -/
import Derived.Test.YtpoaokkmmoeekaaOpen
import Derived.Test.YtpoaokkmmoeekaaRows
import Derived.Test.YtpoaokkmmoeekaaRcRefNG
import Derived.Test.YtpoaokkmmoeekaaRcSameN
import Derived.Test.YtpoaokkmmoeekaaRcSpeak
import Derived.Laws.StructEq
import Derived.Deep.QuietTactic
import Derived.BigQuiet
import Derived.Deep.RegionHeld3
import Derived.Deep.Cut
namespace Go.Proofs.Ytpoaokkmmoeekaa.reconeNodeBytes
open Go.ChangeShapes Go.WideShapes Go.ChangeAt Go.RowKit
open Go.ChangeMaps (open_string shut_string)
set_option linter.unusedVariables false

set_option maxRecDepth 100000 in
set_option maxHeartbeats 8000000 in
theorem walk (w : World) {A : Option Addr} {cap : Nat} {bs : List Nat} (rb : RB w w.heap.size A bs) (hc0 : bs.length ≤ cap) (hm0 : cap ≤ 140737488351232) : Calls Try.prog 4 #[.slice A bs.length cap] w fun e w' => e = .returned (.bool true) ∧ Below w.heap.size w w' := by
  have hby := rb.1
  have HSP := Lib.hid (speaks_any w)
  have hlen : bs.length ≤ maxLen := by unfold maxLen; omega
  have HCL : Hid (∀ (W : World) (h : RB W w.heap.size A bs) (hB : w.heap.size ≤ W.heap.size), Calls Try.prog 16 #[.slice A bs.length cap] W (NewB bs W)) := Lib.hid fun W h hB => clone_any A cap w.heap.size bs W h hB (by omega)
  obtain ⟨E, hE⟩ : ∃ E, E = refNod1GE bs := ⟨_, rfl⟩
  have HS := Lib.hid (fun (W : World) (l : List Ass) (hs : St Zf l w W) => (⟨hs.rb rb (Nat.le_refl _), hs.size⟩ : RB W w.heap.size A bs ∧ w.heap.size ≤ W.heap.size))
  obtain ⟨cz, hcz⟩ : ∃ cz : Array Value, cz = #[.int .i64 0, .int .i64 0, .slice none 0 0] := ⟨_, rfl⟩
  have sz : cz.size = 3 := by rw [hcz]; rfl
  have oz : cz.all (·.oneCell') = true := by rw [hcz, ← Array.all_toList]; rfl
  have hiz : (Try.prog.info? 24).map (·.size) = some cz.size := by rw [sz]; kernel_rfl
  have HLEN := Lib.hid hlen
  have HCZ := Lib.hid hcz
  by_cases h0 : E = 0
  · rw [h0] at hE
    obtain ⟨hl, hok⟩ := refNod1GE_zero hE.symm
    obtain ⟨hG1, hG2⟩ := getNode_read bs hby hl
    obtain ⟨hVr, hVp, hPl⟩ := hG2 hok
    have hG1 : getNE bs = 0 := by rw [hG1, if_pos hok]
    have hq := nod1Ok_eq bs hby hl
    rw [hok] at hq
    obtain ⟨htok, hbytes⟩ := (Bool.and_eq_true _ _).mp hq
    have hbytes := of_decide_eq_true hbytes
    have hlab : labR (firstP (bs.drop 8)) = true := by
      have := htok
      unfold refNodeOk at this
      simp only [Bool.and_eq_true] at this
      exact this.2
    obtain ⟨hfi, hoi⟩ := nod1I bs hby hl
    obtain ⟨D, hD⟩ : ∃ D, D = firstP (bs.drop 8) := ⟨_, rfl⟩
    rw [← hD] at hPl htok hbytes hlab
    have htk := pl8_take D hlab
    have hcut : cutLen (pl8 D) 8 = D.length := by
      have h1 := congrArg List.length htk
      rw [List.length_take, pl8_length] at h1
      have := cutLen_le (pl8 D) 8
      omega
    rw [hcut] at htk
    have HTK := Lib.hid htk
    have hDI : ∀ y ∈ D, isI y := fun y hy => by
      have := okTo_ge D (-1) (labR_parts hlab).1 y hy
      rw [inR_iff] at this
      unfold isI
      omega
    have hDl : D.length ≤ 8 := (labR_parts hlab).2
    have HDL := Lib.hid hDl
    have HG : Hid (∀ (A' : Option Addr) (cap' : Nat) (l : List Ass) (W : World), Stable (Sep l) → St Zf l w W → RB W W.heap.size A' bs → Calls Try.prog 15 #[.slice A' bs.length cap'] W fun e w' => ∃ (g : Nat) (cy : Array Value), Hid (cy = #[.int .i64 (nod1R bs), .int .i64 (nod1P bs), .slice (some ⟨g, 0, none⟩) D.length 8]) ∧ cy.size = 3 ∧ cy.all (·.oneCell') = true ∧ (Try.prog.info? 24).map (·.size) = some cy.size ∧ e = .returned (.tuple #[.agg cy, .int .i64 0]) ∧ St Zf (BlkA g 3 (icells (pl8 D)) :: l) w w') := Lib.hid fun A' cap' l W hst hW hr => by
      refine (GetNode_any A' cap' _ bs W hr (Nat.le_refl _) (by omega)).mono ?_
      unfold NodeRead
      rw [hG1, hVr, hVp, hPl, hcut]
      rintro e w' ⟨g, rfl, h1⟩
      exact ⟨g, _, Lib.hid rfl, rfl, by rw [← Array.all_toList]; rfl, by kernel_rfl, rfl, hW.addSt h1⟩
    have HR : Hid (∀ (l : List Ass) (W : World), Stable (Sep l) → St Zf l w W → Calls Try.prog 17 #[.slice A bs.length cap] W fun e w' => ∃ (a5 : Option Addr) (d5 : Nat) (cy : Array Value), Hid (cy = #[.int .i64 (nod1R bs), .int .i64 (nod1P bs), .slice a5 D.length d5]) ∧ cy.size = 3 ∧ cy.all (·.oneCell') = true ∧ (Try.prog.info? 24).map (·.size) = some cy.size ∧ e = .returned (.tuple #[.agg cy, .int .i64 0]) ∧ St Zf (OlA ivl 3 (.slice a5 D.length d5) D :: l) w w') := Lib.hid fun l W hst hW => by
      refine (refGetNode_any A cap w.heap.size bs W (hW.rb rb (Nat.le_refl _)) hW.size hc0 (by unfold maxLen; omega)).mono ?_
      unfold Nod1Get
      rw [← hE, ← hD]
      rintro e w' ⟨a5, n5, d5, hh, rfl, -⟩
      obtain ⟨rfl, -, -, h1⟩ := hh rfl
      exact ⟨a5, d5, _, Lib.hid rfl, rfl, by rw [← Array.all_toList]; rfl, by kernel_rfl, rfl, hW.addSt h1⟩
    have HSM : Hid (∀ (g : Nat) (a5 : Option Addr) (d5 : Nat) (W : World), RL ivl W W.heap.size (some ⟨g, 0, none⟩) D → RL ivl W W.heap.size a5 D → Calls Try.prog 14 #[.agg #[.int .i64 (nod1R bs), .int .i64 (nod1P bs), .slice (some ⟨g, 0, none⟩) D.length 8], .agg #[.int .i64 (nod1R bs), .int .i64 (nod1P bs), .slice a5 D.length d5]] W fun e w' => e = .returned (.bool true) ∧ Below W.heap.size W w') := Lib.hid fun g a5 d5 W h1 h3 => sameNode_yes (some ⟨g, 0, none⟩) a5 D.length 8 d5 _ _ (nod1R bs) (nod1P bs) D W h1 h3 rfl (by unfold maxLen; omega) (Nat.le_refl _) (Nat.le_refl _)
    have HP : Hid (∀ (g : Nat) (W : World), RL ivl W W.heap.size (some ⟨g, 0, none⟩) D → Calls Try.prog 11 #[.agg #[.int .i64 (nod1R bs), .int .i64 (nod1P bs), .slice (some ⟨g, 0, none⟩) D.length 8]] W fun e w' => ∃ v, e = .returned (.tuple #[v, .int .i64 0]) ∧ OB w' W.heap.size 5 v bs ∧ Below W.heap.size W w') := Lib.hid fun g W h1 => by
      have := putNode_clean (some ⟨g, 0, none⟩) 8 _ (nod1R bs) (nod1P bs) D ⟨hfi, hoi, hDI⟩ W h1 (Nat.le_refl _) hDl (by unfold maxLen; omega)
      unfold RefPut at this
      rw [if_pos htok, if_pos htok, hbytes] at this
      exact this
    clear hl hok hG1 hG2 hVr hVp hPl hq htok hbytes hlab hfi hoi hD htk hcut hDI hDl hE h0 hlen hcz hby rb hc0 hm0 oz hiz
    go_enter Try.func4, Try.ntmps4
    go_upto_region 6 with (first
      | (go_at_call 10; refine (HSP.out).mono ?_; rintro e w1 ⟨rfl, hb1⟩; have h1 := Lib.hid ((St.start Zf w).below hb1); have p1 := HS.out _ _ h1.out; clear hb1)
      | (go_at_call 16; refine (HCL.out _ p1.1 p1.2).mono ?_; rintro e w2 ⟨v2, rfl, ho2, hb2⟩; have h2 := Lib.hid (h1.out.newOb ho2 hb2); obtain ⟨A2, m2, rfl, -, -, hr2, -⟩ := ho2.form; have HG2 := Lib.hid (HG.out A2 m2 _ w2 inferInstance h2.out hr2); clear ho2 hb2 p1 hr2)
      | (go_at_call 15; refine (HG2.out).mono ?_; rintro e w3 ⟨g3, cy, Hcy, sy, oy, hiy, rfl, h3⟩; have h4 := h3.newBlk 24 cz; have r4 := h4.blk; have h5 := Lib.hid (h4.setRow cy); clear h3 h4)
      | (rw [← HCZ.out]; refine wpList_store_row rfl 24 _ _ rfl w3.heap.size cy rfl rfl 24 cz r4 hiy (by rw [sz, sy]) oy ?_; obtain ⟨w5, hw5⟩ : ∃ w5, w5 = (w3.alloc (.cells cz 24)).setRow w3.heap.size cy := ⟨_, rfl⟩; rw [← hw5] at h5 ⊢; have HR5 := Lib.hid (HR.out _ w5 inferInstance h5.out); clear hw5 r4)
      | (go_at_call 17; refine (HR5.out).mono ?_; rintro e w6 ⟨a5, d5, cw, Hcw, sw, ow, hiw, rfl, h6⟩; have h7 := h6.newBlk 24 cz; have r7 := h7.blk; have h8 := Lib.hid (h7.setRow cw); clear h6 h7)
      | (rw [← HCZ.out]; refine wpList_store_row rfl 24 _ _ rfl w6.heap.size cw rfl rfl 24 cz r7 hiw (by rw [sz, sw]) ow ?_; clear r7))
    obtain ⟨w8, hw8⟩ : ∃ w8, w8 = (w6.alloc (.cells cz 24)).setRow w6.heap.size cw := ⟨_, rfl⟩
    rw [← hw8] at h8 ⊢
    have h9 := h8.out
    rw [Hcw.out, Hcy.out] at h9
    obtain ⟨c0, c1, c2⟩ := cells3 h9
    obtain ⟨k0, k1, k2⟩ := cells3 h9.bring2
    have HRL : Hid (∀ (W : World) (l : List Ass), St Zf (BlkA g3 3 (icells (pl8 D)) :: l) w W → RL ivl W W.heap.size (some ⟨g3, 0, none⟩) D) := Lib.hid fun W l hs => by
      have := hs.blk.rl.cut D.length
      rwa [HTK.out] at this
    have HS9 := Lib.hid (HSM.out g3 a5 d5 w8 (HRL.out _ _ h9.bring3) h9.swap.ol.reads.2.1)
    have H9 := Lib.hid h9
    clear h9 hw8 h8
    go_wp2_with (first
      | (go_at_call 14; refine (HS9.out).mono ?_; rintro e w10 ⟨rfl, hb10⟩; have h10 := Lib.hid (H9.out.below hb10); have p10 := HS.out _ _ h10.out; have S10 := Lib.hid (same_yes A2 A bs.length m2 cap _ _ bs _ h10.out.bring4.ob.reads.2.1 p10.1 rfl HLEN.out); clear hb10 p10 c0 c1 c2 k0 k1 k2)
      | (go_at_call 13; refine (S10.out).mono ?_; rintro e w11 ⟨rfl, n11, hw11⟩; have h11 := h10.out.drewN n11; rw [← hw11] at h11; obtain ⟨k0, k1, k2⟩ := cells3 h11.bring2; have HP11 := Lib.hid (HP.out g3 w11 (HRL.out _ _ h11.bring3)); have H11 := Lib.hid h11; clear h11 hw11)
      | (go_at_call 11; refine (HP11.out).mono ?_; rintro e w12 ⟨v12, rfl, ho12, hb12⟩; have h12 := Lib.hid (H11.out.newOb ho12 hb12); obtain ⟨A12, m12, rfl, -, -, -, -⟩ := ho12.form; have p12 := HS.out _ _ h12.out; have S12 := Lib.hid (same_yes A12 A bs.length m12 cap _ _ bs _ h12.out.ob.reads.2.1 p12.1 rfl HLEN.out); clear ho12 hb12 p12)
      | (go_at_call 13; refine (S12.out).mono ?_; rintro e w13 ⟨rfl, n13, hw13⟩; have h13 := Lib.hid (h12.out.drewN n13); rw [← hw13] at h13; clear hw13))
    go_ret
    exact ⟨rfl, h13.out.bel⟩
  · have hb0 : (E != 0) = true := by simpa using h0
    have hE2 : getNE bs = E := by rw [getNE_eq bs hby, hE]
    have HG : Hid (∀ (A' : Option Addr) (cap' : Nat) (l : List Ass) (W : World), Stable (Sep l) → St Zf l w W → RB W W.heap.size A' bs → Calls Try.prog 15 #[.slice A' bs.length cap'] W fun e w' => e = .returned (.tuple #[.agg cz, .int .i64 E]) ∧ St Zf l w w') := Lib.hid fun A' cap' l W hst hW hr => by
      refine (GetNode_any A' cap' _ bs W hr (Nat.le_refl _) (by omega)).mono ?_
      unfold NodeRead
      rw [hE2, hcz]
      simp only [if_neg h0]
      rintro e w' hh
      first
        | (obtain ⟨g, rfl, h1⟩ := hh; exact ⟨rfl, hW.below h1.bel⟩)
        | (obtain ⟨rfl, g, h1⟩ := hh; exact ⟨rfl, hW.below h1.bel⟩)
    have HR : Hid (∀ (l : List Ass) (W : World), Stable (Sep l) → St Zf l w W → Calls Try.prog 17 #[.slice A bs.length cap] W fun e w' => e = .returned (.tuple #[.agg cz, .int .i64 E]) ∧ St Zf l w w') := Lib.hid fun l W hst hW => by
      refine (refGetNode_any A cap w.heap.size bs W (hW.rb rb (Nat.le_refl _)) hW.size hc0 (by unfold maxLen; omega)).mono ?_
      unfold Nod1Get
      rw [← hE, hcz]
      rintro e w' ⟨a5, n5, d5, hh, rfl, hb⟩
      rw [if_neg h0]
      exact ⟨rfl, hW.below hb⟩
    have HSM : Hid (∀ (W : World), Calls Try.prog 14 #[.agg #[.int .i64 0, .int .i64 0, .slice none 0 0], .agg #[.int .i64 0, .int .i64 0, .slice none 0 0]] W fun e w' => e = .returned (.bool true) ∧ Below W.heap.size W w') := Lib.hid fun W => sameNode_yes none none 0 0 0 0 0 0 0 [] W (RL.empty _ _ _ _) (RL.empty _ _ _ _) rfl (Nat.zero_le _) (Nat.zero_le _) (Nat.zero_le _)
    clear hE hE2 h0 hlen hcz hby rb hc0 hm0
    go_enter Try.func4, Try.ntmps4
    go_upto_region 6 with (first
      | (go_at_call 10; refine (HSP.out).mono ?_; rintro e w1 ⟨rfl, hb1⟩; have h1 := Lib.hid ((St.start Zf w).below hb1); have p1 := HS.out _ _ h1.out; clear hb1)
      | (go_at_call 16; refine (HCL.out _ p1.1 p1.2).mono ?_; rintro e w2 ⟨v2, rfl, ho2, hb2⟩; have h2 := Lib.hid (h1.out.newOb ho2 hb2); obtain ⟨A2, m2, rfl, -, -, hr2, -⟩ := ho2.form; have HG2 := Lib.hid (HG.out A2 m2 _ w2 inferInstance h2.out hr2); clear ho2 hb2 p1 hr2)
      | (go_at_call 15; refine (HG2.out).mono ?_; rintro e w3 ⟨rfl, h3⟩; have h4 := h3.newBlk 24 cz; have r4 := h4.blk; have h5 := Lib.hid (h4.setRow cz); clear h3 h4)
      | (rw [← HCZ.out]; refine wpList_store_row rfl 24 _ _ rfl w3.heap.size cz rfl rfl 24 cz r4 hiz rfl oz ?_; obtain ⟨w5, hw5⟩ : ∃ w5, w5 = (w3.alloc (.cells cz 24)).setRow w3.heap.size cz := ⟨_, rfl⟩; rw [← hw5] at h5 ⊢; have HR5 := Lib.hid (HR.out _ w5 inferInstance h5.out); clear hw5 r4)
      | (go_at_call 17; refine (HR5.out).mono ?_; rintro e w6 ⟨rfl, h6⟩; have h7 := h6.newBlk 24 cz; have r7 := h7.blk; have h8 := Lib.hid (h7.setRow cz); clear h6 h7)
      | (rw [← HCZ.out]; refine wpList_store_row rfl 24 _ _ rfl w6.heap.size cz rfl rfl 24 cz r7 hiz rfl oz ?_; clear r7))
    obtain ⟨w8, hw8⟩ : ∃ w8, w8 = (w6.alloc (.cells cz 24)).setRow w6.heap.size cz := ⟨_, rfl⟩
    rw [← hw8] at h8 ⊢
    have h9 := h8.out
    rw [HCZ.out] at h9
    obtain ⟨c0, c1, c2⟩ := cells3 h9
    obtain ⟨k0, k1, k2⟩ := cells3 h9.swap
    have HS9 := Lib.hid (HSM.out w8)
    clear h9 hw8
    go_wp2_with (first
      | (go_at_call 14; refine (HS9.out).mono ?_; rintro e w10 ⟨rfl, hb10⟩; have h10 := Lib.hid (h8.out.below hb10); have p10 := HS.out _ _ h10.out; have S10 := Lib.hid (same_yes A2 A bs.length m2 cap _ _ bs _ h10.out.bring2.ob.reads.2.1 p10.1 rfl HLEN.out); clear hb10 p10)
      | (go_at_call 13; refine (S10.out).mono ?_; rintro e w11 ⟨rfl, n11, hw11⟩; have h11 := Lib.hid (h10.out.drewN n11); rw [← hw11] at h11; clear hw11))
    go_ret
    exact ⟨rfl, h11.out.bel⟩

/-! ### THE ROW's STEP -/
theorem own : ownKnob Try.prog.godebug = none := by kernel_rfl
theorem laidOut : laidOutB Try.prog = true := by kernel_rfl

set_option maxRecDepth 100000 in
theorem contract (H : Type) (enc : TypeId × Value → H) (W : World) (base : Nat) (args : Array Value) (ds gs : List (DataW H)) (before : List MemPlace)
    (hval0 : ∀ (j : Nat) t v, Try.f4.params[j]? = some t → args[j]? = some v → Value.okWide Try.prog W .any base t v)
    (hW : DataW.Whole enc Try.prog Try.f4.params.toList Rows.reconeNodeBytesSpec.vars false W args.toList ds gs before)
    (hsz : (DataW.weightsEach Try.prog (Try.f4.params.toList ++ (OpenSpec.ofChange Rows.reconeNodeBytesSpec).bare.plain.varTypes Try.prog) (ds ++ gs)).all (· ≤ reachBytes) = true) :
    Calls Try.prog 4 args W fun e W' => ∃ v, e = .returned v ∧ Rows.reconeNodeBytesSpec.post enc Try.prog Try.f4 false true false false W args v W' := by
  have hval : ∀ (j : Nat) t v, Try.f4.params[j]? = some t → args[j]? = some v → Value.okWide Try.prog W .any base t v := hval0
  have hW' := hW
  obtain ⟨p, q, hA0, hV, rfl, hfz, hnd⟩ := hW
  have hA : DataW.TrodAll enc Try.prog W 0 (fun _ => true) true Try.f4.params.toList args.toList ds p := hA0
  rw [Try.params4] at hA hval
  obtain ⟨v0, vs0, d0, ds0, p0, q0, hargs, rfl, rfl, h0, r0⟩ := trodAll_cons hA
  obtain ⟨rfl, rfl, rfl⟩ := trodAll_nil r0
  obtain rfl : args = #[v0] := by cases args; simp_all
  obtain ⟨rfl, rfl⟩ := trodVars_none hV
  have k0 := h0
  have lt0 : ∀ x ∈ p0, x.block < W.heap.size := by obtain ⟨m, hm⟩ := k0; exact DataW.trod_lt m _ _ _ hm
  have w0 := reach_at hsz (j := 0) rfl rfl
  clear hA0 hval0 hsz
  obtain ⟨A0, n0, c0, rfl⟩ := okWide_slice Try.underlying26 (hval 0 26 v0 rfl rfl)
  obtain ⟨b0, rfl, rb0, cb0, mb0⟩ := open_bytes Try.underlying26 Try.underlying5 (by kernel_rfl) (by kernel_rfl) w0 h0
  refine (walk W rb0 cb0 mb0).mono fun e W' ⟨he, bel⟩ => ?_
  subst he
  exact ⟨_, rfl, _, _, _, [], _, [], hW', trodAll_mk1 (shut_bool Try.underlying4 _), (trodAll_cons_mk (Below.trod laidOut (by kernel_rfl) (of_decide_eq_true (by kernel_rfl)) k0 bel lt0) trodAll_mk0), rfl, bel.frame _, fun h => by cases h⟩

set_option maxRecDepth 100000 in
theorem lifted (os : Os) (started : os.Started) (H : Type) (enc : TypeId × Value → H) :
    ReturnsInHanded {} Try.checked os 4 .any (Rows.reconeNodeBytesSpec.pre6 enc Try.prog Try.f4 Rows.reconeNodeBytesRow.domain false) (Rows.reconeNodeBytesSpec.post enc Try.prog Try.f4 false true false false) := by
  refine returnsInHanded_of_change_sized (C := Try.checked) own started (by kernel_rfl) Try.func4
    (ChangeSpec.witness6 (enc := enc) (C := Try.checked) false ⟨#[], #[.slice none 0 0], []⟩ 8 (by kernel_rfl) (by kernel_rfl) (by kernel_rfl) (by kernel_rfl)) ?_
  intro W base args ds gs before hval hW _ hsz _
  exact contract H enc W base args ds gs before hval hW hsz

/-- THE STATEMENT -/
theorem proved : Rows.ReconeNodeBytesSaid :=
  OpenClaim.holds_of_wide 4 Try.f4 rfl rfl rfl rfl rfl rfl rfl ⟨rfl, rfl, rfl, rfl, rfl⟩ rfl rfl rfl rfl rfl (by kernel_rfl) Try.func4 (by kernel_rfl)
    (of_decide_eq_true (by kernel_rfl)) (by unfold Func.isWrapper; rw [if_neg (of_decide_eq_false (by kernel_rfl))]; exact ⟨rfl, rfl⟩)
    (fun os started H enc _ => lifted os started H enc)
end Go.Proofs.Ytpoaokkmmoeekaa.reconeNodeBytes
