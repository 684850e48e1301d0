/- For any two graphs: whether they are one is told exactly as the document does; copies of one graph are one. -/
import Derived.Test.YtdfpmolkkbplpaaGreatOpen
import Derived.Test.YtdfpmolkkbplpaaGreatRows
import Derived.Test.YtdfpmolkkbplpaaGreatGrSpeak
import Derived.Test.YtdfpmolkkbplpaaGreatGrOpenG
import Derived.Test.YtdfpmolkkbplpaaGreatGrRefSame
import Derived.Test.YtdfpmolkkbplpaaGreatGrCopy
import Derived.Deep.QuietTactic
import Derived.BigQuiet
import Derived.Deep.RegionHeld3
import Derived.Deep.Cut
namespace Go.Proofs.YtdfpmolkkbplpaaGreat.graphSames
open Go.ChangeShapes Go.WideShapes Go.ChangeAt Go.RowKit
open Go.ChangeMaps (open_string shut_string)
set_option linter.unusedVariables false

set_option maxRecDepth 100000 in
set_option maxHeartbeats 4000000 in
theorem walk (w : World) {g : Gv} {A : Option Addr} {c : Nat} {A' : Option Addr} {c' : Nat} (hx : GR w w.heap.size g A A' ∧ GBig g) {h : Gv} {D : Option Addr} {d : Nat} {D' : Option Addr} {d' : Nat} (hy : GR w w.heap.size h D D' ∧ GBig h) :
    Calls Tryz.prog 8 #[gagg g A c A' c', gagg h D d D' d'] w fun e w' => e = .returned (.bool true) ∧ Below w.heap.size w w' := by
  obtain ⟨hg, hb⟩ := hx
  obtain ⟨hh, hb2⟩ := hy
  obtain ⟨wo, hwo⟩ : ∃ z, z = (w.alloc (.cells #[.slice A g.nodes.length c, .slice A' g.rels.length c'] 27)).alloc (.cells #[.slice D h.nodes.length d, .slice D' h.rels.length d'] 27) := ⟨_, rfl⟩
  have hbo : Below w.heap.size w wo := by rw [hwo]; exact ((Below.refl _ _).alloc (Nat.le_refl _) _).alloc (by simp) _
  have Bx : Blk wo w.heap.size 27 #[.slice A g.nodes.length c, .slice A' g.rels.length c'] := by subst hwo; exact (Blk.new _ _ _).alloc _
  have By : Blk wo (w.heap.size + 1) 27 #[.slice D h.nodes.length d, .slice D' h.rels.length d'] := by
    subst hwo
    have := Blk.new (w.alloc (.cells #[.slice A g.nodes.length c, .slice A' g.rels.length c'] 27)) 27 #[.slice D h.nodes.length d, .slice D' h.rels.length d']
    simpa using this
  have hlx := Bx.lt
  have hly := By.lt
  have hgo := hg.below hbo
  have hho := hh.below hbo
  have hso := hbo.size
  have HCa : Hid (∀ w', Below wo.heap.size wo w' → Calls Tryz.prog 18 #[gagg g A c A' c'] w' fun e w'' => ∃ K k K' k', e = .returned (gagg g K k K' k') ∧ GR w'' w''.heap.size g K K' ∧ Below wo.heap.size wo w'' ∧ Below w'.heap.size w' w'') := Lib.hid fun w' hb' =>
    (refGCopy_any g A A' c c' w.heap.size w' (hgo.below (hb'.mono hso)) hb (Nat.le_trans hso hb'.size)).mono fun e w'' ⟨K, k, K', k', F, e1, e2, e3, e4⟩ => ⟨K, k, K', k', e1, e2.reads hgo.2.2.1 hgo.2.2.2, hb'.trans (e4.mono hb'.size), e4⟩
  have HCb : Hid (∀ w', Below wo.heap.size wo w' → Calls Tryz.prog 18 #[gagg h D d D' d'] w' fun e w'' => ∃ K k K' k', e = .returned (gagg h K k K' k') ∧ GR w'' w''.heap.size h K K' ∧ Below wo.heap.size wo w'' ∧ Below w'.heap.size w' w'') := Lib.hid fun w' hb' =>
    (refGCopy_any h D D' d d' w.heap.size w' (hho.below (hb'.mono hso)) hb2 (Nat.le_trans hso hb'.size)).mono fun e w'' ⟨K, k, K', k', F, e1, e2, e3, e4⟩ => ⟨K, k, K', k', e1, e2.reads hho.2.2.1 hho.2.2.2, hb'.trans (e4.mono hb'.size), e4⟩
  obtain ⟨E, hE⟩ : ∃ E, E = sameG g h := ⟨_, rfl⟩
  have HS : Hid (∀ w2 w' K k K' k' J j J' j', Below wo.heap.size wo w' → GR w2 w2.heap.size g K K' → Below w2.heap.size w2 w' → GR w' w'.heap.size h J J' → Calls Tryz.prog 24 #[gagg g K k K' k', gagg h J j J' j'] w' fun e w'' => e = .returned (.bool E) ∧ Below wo.heap.size wo w'') := Lib.hid fun w2 w' K k K' k' J j J' j' hb' h1 h2 h3 =>
    (gSame_any g h K K' k k' J J' j j' w'.heap.size w' ((h1.below h2).more h2.size) h3 (Nat.le_refl _)).mono fun e w'' ⟨e1, e2⟩ => ⟨by rw [hE]; exact e1, hb'.trans (e2.mono hb'.size)⟩
  have HT : Hid (∀ w2 w' K k K' k' J j J' j', Below wo.heap.size wo w' → GR w2 w2.heap.size h K K' → Below w2.heap.size w2 w' → GR w' w'.heap.size h J J' → Calls Tryz.prog 24 #[gagg h K k K' k', gagg h J j J' j'] w' fun e w'' => e = .returned (.bool true) ∧ Below wo.heap.size wo w'') := Lib.hid fun w2 w' K k K' k' J j J' j' hb' h1 h2 h3 =>
    (gSame_any h h K K' k k' J J' j j' w'.heap.size w' ((h1.below h2).more h2.size) h3 (Nat.le_refl _)).mono fun e w'' ⟨e1, e2⟩ => ⟨by rw [e1, sameG_self], hb'.trans (e2.mono hb'.size)⟩
  have HR : Hid (∀ w', Below wo.heap.size wo w' → Calls Tryz.prog 21 #[gagg g A c A' c', gagg h D d D' d'] w' fun e w'' => e = .returned (.bool E) ∧ Below wo.heap.size wo w'') := Lib.hid fun w' hb' =>
    (refGSame_any g h A A' c c' D D' d d' w.heap.size w' (hgo.below (hb'.mono hso)) (hho.below (hb'.mono hso)) (Nat.le_trans hso hb'.size)).mono fun e w'' ⟨e1, e2⟩ => ⟨by rw [hE]; exact e1, hb'.trans (e2.mono hb'.size)⟩
  have HF : Hid (∀ w', Below wo.heap.size wo w' → w'.cell? ⟨w.heap.size, 0, none⟩ = some (.slice A g.nodes.length c) ∧ w'.cell? ⟨w.heap.size, 1, none⟩ = some (.slice A' g.rels.length c') ∧ w'.cell? ⟨w.heap.size + 1, 0, none⟩ = some (.slice D h.nodes.length d) ∧ w'.cell? ⟨w.heap.size + 1, 1, none⟩ = some (.slice D' h.rels.length d')) := Lib.hid fun w' hb => by
    have b := Bx.below hb hlx
    have b2 := By.below hb hly
    exact ⟨by rw [b.cell]; rfl, by rw [b.cell]; rfl, by rw [b2.cell]; rfl, by rw [b2.cell]; rfl⟩
  have HB : Hid (∀ w', Below wo.heap.size wo w' → Below w.heap.size w w') := Lib.hid fun w' hb' => hbo.trans (hb'.mono hso)
  have Hwo := Lib.hid hwo
  simp only [gagg] at HCa HCb HS HT HR ⊢
  clear hg hb hh hb2 hgo hho hbo Bx By hwo hE
  cases E
  all_goals
    go_enter Tryz.func8, Tryz.ntmps8
    go_wp2_with fail
    rw [← Hwo.out]
    refine (speaks6_any wo).mono ?_
    rintro e w1 ⟨rfl, h1⟩
    have h1d : Below wo.heap.size wo w1.drew := ⟨h1.os, h1.tape, h1.output, h1.size, h1.block⟩
    obtain ⟨c0, c1, e0, e1⟩ := HF.out w1 h1
    clear h1
    go_wp2
    go_region_held3 (fun w' => w'.cell? ⟨w.heap.size, 0, none⟩ = some (.slice A g.nodes.length c) ∧ w'.cell? ⟨w.heap.size, 1, none⟩ = some (.slice A' g.rels.length c') ∧ w'.cell? ⟨w.heap.size + 1, 0, none⟩ = some (.slice D h.nodes.length d) ∧ w'.cell? ⟨w.heap.size + 1, 1, none⟩ = some (.slice D' h.rels.length d')) (go_keep)
      ((first
        | (go_at_call 18; with_reducible refine (HCa.out _ h1d).mono ?_; rintro e w2 ⟨K, k, K', k', rfl, hG2, h2, hb2⟩; have k2 := HF.out _ h2; obtain ⟨_, _, _, _⟩ := k2; have HG2 := Lib.hid hG2; clear hG2 h1d hb2)
        | (go_at_call 18; with_reducible refine (HCb.out _ h2).mono ?_; rintro e w3 ⟨J, j, J', j', rfl, hG3, h3, hb3⟩; have k3 := HF.out _ h3; obtain ⟨_, _, _, _⟩ := k3; have HG3 := Lib.hid hG3; have HB3 := Lib.hid hb3; clear hG3 h2 hb3)
        | (go_at_call 24; with_reducible refine (HS.out w2 _ K k K' k' J j J' j' h3 HG2.out HB3.out HG3.out).mono ?_; rintro e w4 ⟨rfl, h4⟩; have k4 := HF.out _ h4; obtain ⟨_, _, _, _⟩ := k4; clear h3)
        | (go_at_call 21; with_reducible refine (HR.out _ h4).mono ?_; rintro e w5 ⟨rfl, h5⟩; have k5 := HF.out _ h5; obtain ⟨_, _, _, _⟩ := k5; clear h4)
        | (go_at_call 18; with_reducible refine (HCb.out _ h5).mono ?_; rintro e w6 ⟨P, p, P', p', rfl, hG6, h6, hb6⟩; have k6 := HF.out _ h6; obtain ⟨_, _, _, _⟩ := k6; have HG6 := Lib.hid hG6; clear hG6 h5 hb6)
        | (go_at_call 18; with_reducible refine (HCb.out _ h6).mono ?_; rintro e w7 ⟨Q, q, Q', q', rfl, hG7, h7, hb7⟩; have k7 := HF.out _ h7; obtain ⟨_, _, _, _⟩ := k7; have HG7 := Lib.hid hG7; have HB7 := Lib.hid hb7; clear hG7 h6 hb7)
        | (go_at_call 24; with_reducible refine (HT.out w6 _ P p P' p' Q q Q' q' h7 HG6.out HB7.out HG7.out).mono ?_; rintro e w8 ⟨rfl, h8⟩; have k8 := HF.out _ h8; obtain ⟨_, _, _, _⟩ := k8; clear h7)))
    have hend := HB.out _ h8
    go_wp2
    go_ret
    exact ⟨rfl, hend⟩

/-! ### THE ROW's STEP -/
theorem own : ownKnob Tryz.prog.godebug = none := by kernel_rfl
theorem laidOut : laidOutB Tryz.prog = true := by kernel_rfl

set_option maxRecDepth 100000 in
theorem contract (H : Type) (enc : TypeId × Value → H) (W : World) (base : Nat) (args : Array Value) (ds gs : List (DataW H)) (before : List MemPlace)
    (hval0 : ∀ (j : Nat) t v, Tryz.f8.params[j]? = some t → args[j]? = some v → Value.okWide Tryz.prog W .any base t v)
    (hW : DataW.Whole enc Tryz.prog Tryz.f8.params.toList Rows.graphSamesSpec.vars false W args.toList ds gs before)
    (hsz : (DataW.weightsEach Tryz.prog (Tryz.f8.params.toList ++ (OpenSpec.ofChange Rows.graphSamesSpec).bare.plain.varTypes Tryz.prog) (ds ++ gs)).all (· ≤ reachBytes) = true) :
    Calls Tryz.prog 8 args W fun e W' => ∃ v, e = .returned v ∧ Rows.graphSamesSpec.post enc Tryz.prog Tryz.f8 false true false false W args v W' := by
  have hval : ∀ (j : Nat) t v, Tryz.f8.params[j]? = some t → args[j]? = some v → Value.okWide Tryz.prog W .any base t v := hval0
  have hW' := hW
  obtain ⟨p, q, hA0, hV, rfl, hfz, hnd⟩ := hW
  have hA : DataW.TrodAll enc Tryz.prog W 0 (fun _ => true) true Tryz.f8.params.toList args.toList ds p := hA0
  rw [Tryz.params8] at hA hval
  obtain ⟨v0, vs0, d0, ds0, p0, q0, hargs, rfl, rfl, h0, r0⟩ := trodAll_cons hA
  obtain ⟨v1, vs1, d1, ds1, p1, q1, rfl, rfl, rfl, h1, r1⟩ := trodAll_cons r0
  obtain ⟨rfl, rfl, rfl⟩ := trodAll_nil r1
  obtain rfl : args = #[v0, v1] := by cases args; simp_all
  obtain ⟨rfl, rfl⟩ := trodVars_none hV
  have k0 := h0
  have lt0 : ∀ x ∈ p0, x.block < W.heap.size := by obtain ⟨m, hm⟩ := k0; exact DataW.trod_lt m _ _ _ hm
  have w0 := reach_at hsz (j := 0) rfl rfl
  have k1 := h1
  have lt1 : ∀ x ∈ p1, x.block < W.heap.size := by obtain ⟨m, hm⟩ := k1; exact DataW.trod_lt m _ _ _ hm
  have w1 := reach_at hsz (j := 1) rfl rfl
  clear hA0 hval0 hsz
  obtain ⟨g0, A0, c0, B0, d0, rfl, hx0⟩ := open_graph (hval 0 _ v0 rfl rfl) w0 h0 lt0
  obtain ⟨g1, A1, c1, B1, d1, rfl, hx1⟩ := open_graph (hval 1 _ v1 rfl rfl) w1 h1 lt1
  refine (walk W hx0 hx1).mono fun e W' ⟨he, bel⟩ => ?_
  subst he
  exact ⟨_, rfl, _, _, _, [], _, [], hW', trodAll_mk1 (shut_bool Tryz.underlying4 _), (trodAll_cons_mk (Below.trod laidOut (by kernel_rfl) (of_decide_eq_true (by kernel_rfl)) k0 bel lt0) (trodAll_cons_mk (Below.trod laidOut (by kernel_rfl) (of_decide_eq_true (by kernel_rfl)) k1 bel lt1) trodAll_mk0)), rfl, bel.frame _, fun h => by cases h⟩

set_option maxRecDepth 100000 in
theorem lifted (os : Os) (started : os.Started) (H : Type) (enc : TypeId × Value → H) :
    ReturnsInHanded {} Tryz.checked os 8 .any (Rows.graphSamesSpec.pre6 enc Tryz.prog Tryz.f8 Rows.graphSamesRow.domain false) (Rows.graphSamesSpec.post enc Tryz.prog Tryz.f8 false true false false) := by
  refine returnsInHanded_of_change_sized (C := Tryz.checked) own started (by kernel_rfl) Tryz.func8
    (ChangeSpec.witness6 (enc := enc) (C := Tryz.checked) false ⟨#[], #[.agg #[.slice none 0 0, .slice none 0 0], .agg #[.slice none 0 0, .slice none 0 0]], []⟩ 8 (by kernel_rfl) (by kernel_rfl) (by kernel_rfl) (by kernel_rfl)) ?_
  intro W base args ds gs before hval hW _ hsz _
  exact contract H enc W base args ds gs before hval hW hsz

/-- THE STATEMENT -/
theorem proved : Rows.GraphSamesSaid :=
  OpenClaim.holds_of_wide 8 Tryz.f8 rfl rfl rfl rfl rfl rfl rfl ⟨rfl, rfl, rfl, rfl, rfl⟩ rfl rfl rfl rfl rfl (by kernel_rfl) Tryz.func8 (by kernel_rfl)
    (of_decide_eq_true (by kernel_rfl)) (by unfold Func.isWrapper; rw [if_neg (of_decide_eq_false (by kernel_rfl))]; exact ⟨rfl, rfl⟩)
    (fun os started H enc _ => lifted os started H enc)
end Go.Proofs.YtdfpmolkkbplpaaGreat.graphSames
