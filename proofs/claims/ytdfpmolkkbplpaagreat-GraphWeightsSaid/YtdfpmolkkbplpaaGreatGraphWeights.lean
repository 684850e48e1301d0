/- For every graph: the program counts the bytes of all values exactly as the document does. -/
import Derived.Test.YtdfpmolkkbplpaaGreatOpen
import Derived.Test.YtdfpmolkkbplpaaGreatRows
import Derived.Test.YtdfpmolkkbplpaaGreatGrSpeak
import Derived.Test.YtdfpmolkkbplpaaGreatGrOpenG
import Derived.Test.YtdfpmolkkbplpaaGreatGrRefW
import Derived.Test.YtdfpmolkkbplpaaGreatGrCopy
import Derived.Deep.QuietTactic
import Derived.BigQuiet
import Derived.Deep.RegionHeld3
import Derived.Deep.Cut
namespace Go.Proofs.YtdfpmolkkbplpaaGreat.graphWeights
open Go.ChangeShapes Go.WideShapes Go.ChangeAt Go.RowKit
open Go.ChangeMaps (open_string shut_string)
set_option linter.unusedVariables false

set_option maxRecDepth 100000 in
set_option maxHeartbeats 2000000 in
theorem walk (w : World) {g : Gv} {A : Option Addr} {c : Nat} {A' : Option Addr} {c' : Nat} (hx : GR w w.heap.size g A A' ∧ GBig g) :
    Calls Tryz.prog 12 #[gagg g A c A' c'] w fun e w' => e = .returned (.bool true) ∧ Below w.heap.size w w' := by
  obtain ⟨hg, hb⟩ := hx
  obtain ⟨wo, hwo⟩ : ∃ x, x = w.alloc (.cells #[.slice A g.nodes.length c, .slice A' g.rels.length c'] 27) := ⟨_, rfl⟩
  have hbo : Below w.heap.size w wo := by rw [hwo]; exact (Below.refl _ _).alloc (Nat.le_refl _) _
  have Bg : Blk wo w.heap.size 27 #[.slice A g.nodes.length c, .slice A' g.rels.length c'] := by rw [hwo]; exact Blk.new _ _ _
  have hgo := hg.below hbo
  have hlo := Bg.lt
  have hso := hbo.size
  have HC : Hid (∀ w', Below wo.heap.size wo w' → Calls Tryz.prog 18 #[gagg g A c A' c'] w' fun e w'' => ∃ D d D' d', e = .returned (gagg g D d D' d') ∧ GR w'' w''.heap.size g D D' ∧ Below wo.heap.size wo w'') := Lib.hid fun w' hb' =>
    (refGCopy_any g A A' c c' w.heap.size w' (hgo.below (hb'.mono hso)) hb (Nat.le_trans hso hb'.size)).mono fun e w'' ⟨D, d, D', d', F, e1, e2, e3, e4⟩ => ⟨D, d, D', d', e1, e2.reads hgo.2.2.1 hgo.2.2.2, hb'.trans (e4.mono hb'.size)⟩
  have HD : Hid (∀ w' D d D' d', Below wo.heap.size wo w' → GR w' w'.heap.size g D D' → Calls Tryz.prog 30 #[gagg g D d D' d'] w' fun e w'' => e = .returned (.int .i64 (weightP (gprops g))) ∧ Below wo.heap.size wo w'') := Lib.hid fun w' D d D' d' hb' hG =>
    (GWeight_any g D D' d d' w'.heap.size w' hG (Nat.le_refl _)).mono fun e w'' ⟨e1, e2⟩ => ⟨e1, hb'.trans (e2.mono hb'.size)⟩
  have HR : Hid (∀ w', Below wo.heap.size wo w' → Calls Tryz.prog 31 #[gagg g A c A' c'] w' fun e w'' => e = .returned (.int .i64 (weightP (gprops g))) ∧ Below wo.heap.size wo w'') := Lib.hid fun w' hb' =>
    (refWeight_any g A A' c c' w.heap.size w' (hgo.below (hb'.mono hso)) (Nat.le_trans hso hb'.size)).mono fun e w'' ⟨e1, e2⟩ => ⟨e1, hb'.trans (e2.mono hb'.size)⟩
  have HF : Hid (∀ w', Below wo.heap.size wo w' → w'.cell? ⟨w.heap.size, 0, none⟩ = some (.slice A g.nodes.length c) ∧ w'.cell? ⟨w.heap.size, 1, none⟩ = some (.slice A' g.rels.length c')) := Lib.hid fun w' hb => by
    have b := Bg.below hb hlo
    exact ⟨by rw [b.cell]; rfl, by rw [b.cell]; rfl⟩
  have HB : Hid (∀ w', Below wo.heap.size wo w' → Below w.heap.size w w') := Lib.hid fun w' hb' => hbo.trans (hb'.mono hso)
  obtain ⟨t, ht⟩ : ∃ t, t = weightP (gprops g) := ⟨_, rfl⟩
  rw [← ht] at HD HR
  have et : (t == t) = true := by simp
  have Hwo := Lib.hid hwo
  simp only [gagg] at HC HD HR ⊢
  clear hg hb hgo hbo Bg hwo ht
  go_enter Tryz.func12, Tryz.ntmps12
  go_wp2_with fail
  rw [← Hwo.out]
  refine (speaks6_any wo).mono ?_
  rintro e w1 ⟨rfl, h1⟩
  have h1d : Below wo.heap.size wo w1.drew := ⟨h1.os, h1.tape, h1.output, h1.size, h1.block⟩
  obtain ⟨c0, c1⟩ := HF.out w1 h1
  go_wp2
  go_region_held3 (fun w' => w'.cell? ⟨w.heap.size, 0, none⟩ = some (.slice A g.nodes.length c) ∧ w'.cell? ⟨w.heap.size, 1, none⟩ = some (.slice A' g.rels.length c')) (go_keep)
    ((first
      | (go_at_call 18; refine (HC.out _ h1d).mono ?_; rintro e w2 ⟨D, d, D', d', rfl, hG2, h2⟩; have k2 := HF.out _ h2; obtain ⟨_, _⟩ := k2; have HG2 := Lib.hid hG2; clear hG2)
      | (go_at_call 30; refine (HD.out _ D d D' d' h2 HG2.out).mono ?_; rintro e w3 ⟨rfl, h3⟩; have k3 := HF.out _ h3; obtain ⟨_, _⟩ := k3)
      | (go_at_call 31; refine (HR.out _ h3).mono ?_; rintro e w4 ⟨rfl, h4⟩; have k4 := HF.out _ h4; obtain ⟨_, _⟩ := k4)))
  have hend := HB.out _ h4
  go_wp2
  go_ret
  exact ⟨rfl, hend⟩

/-! ### THE ROW's STEP -/
theorem own : ownKnob Tryz.prog.godebug = none := by kernel_rfl
theorem laidOut : laidOutB Tryz.prog = true := by kernel_rfl

set_option maxRecDepth 100000 in
theorem contract (H : Type) (enc : TypeId × Value → H) (W : World) (base : Nat) (args : Array Value) (ds gs : List (DataW H)) (before : List MemPlace)
    (hval0 : ∀ (j : Nat) t v, Tryz.f12.params[j]? = some t → args[j]? = some v → Value.okWide Tryz.prog W .any base t v)
    (hW : DataW.Whole enc Tryz.prog Tryz.f12.params.toList Rows.graphWeightsSpec.vars false W args.toList ds gs before)
    (hsz : (DataW.weightsEach Tryz.prog (Tryz.f12.params.toList ++ (OpenSpec.ofChange Rows.graphWeightsSpec).bare.plain.varTypes Tryz.prog) (ds ++ gs)).all (· ≤ reachBytes) = true) :
    Calls Tryz.prog 12 args W fun e W' => ∃ v, e = .returned v ∧ Rows.graphWeightsSpec.post enc Tryz.prog Tryz.f12 false true false false W args v W' := by
  have hval : ∀ (j : Nat) t v, Tryz.f12.params[j]? = some t → args[j]? = some v → Value.okWide Tryz.prog W .any base t v := hval0
  have hW' := hW
  obtain ⟨p, q, hA0, hV, rfl, hfz, hnd⟩ := hW
  have hA : DataW.TrodAll enc Tryz.prog W 0 (fun _ => true) true Tryz.f12.params.toList args.toList ds p := hA0
  rw [Tryz.params12] at hA hval
  obtain ⟨v0, vs0, d0, ds0, p0, q0, hargs, rfl, rfl, h0, r0⟩ := trodAll_cons hA
  obtain ⟨rfl, rfl, rfl⟩ := trodAll_nil r0
  obtain rfl : args = #[v0] := by cases args; simp_all
  obtain ⟨rfl, rfl⟩ := trodVars_none hV
  have k0 := h0
  have lt0 : ∀ x ∈ p0, x.block < W.heap.size := by obtain ⟨m, hm⟩ := k0; exact DataW.trod_lt m _ _ _ hm
  have w0 := reach_at hsz (j := 0) rfl rfl
  clear hA0 hval0 hsz
  obtain ⟨g0, A0, c0, B0, d0, rfl, hx0⟩ := open_graph (hval 0 _ v0 rfl rfl) w0 h0 lt0
  refine (walk W hx0).mono fun e W' ⟨he, bel⟩ => ?_
  subst he
  exact ⟨_, rfl, _, _, _, [], _, [], hW', trodAll_mk1 (shut_bool Tryz.underlying4 _), (trodAll_cons_mk (Below.trod laidOut (by kernel_rfl) (of_decide_eq_true (by kernel_rfl)) k0 bel lt0) trodAll_mk0), rfl, bel.frame _, fun h => by cases h⟩

set_option maxRecDepth 100000 in
theorem lifted (os : Os) (started : os.Started) (H : Type) (enc : TypeId × Value → H) :
    ReturnsInHanded {} Tryz.checked os 12 .any (Rows.graphWeightsSpec.pre6 enc Tryz.prog Tryz.f12 Rows.graphWeightsRow.domain false) (Rows.graphWeightsSpec.post enc Tryz.prog Tryz.f12 false true false false) := by
  refine returnsInHanded_of_change_sized (C := Tryz.checked) own started (by kernel_rfl) Tryz.func12
    (ChangeSpec.witness6 (enc := enc) (C := Tryz.checked) false ⟨#[], #[.agg #[.slice none 0 0, .slice none 0 0]], []⟩ 8 (by kernel_rfl) (by kernel_rfl) (by kernel_rfl) (by kernel_rfl)) ?_
  intro W base args ds gs before hval hW _ hsz _
  exact contract H enc W base args ds gs before hval hW hsz

/-- THE STATEMENT -/
theorem proved : Rows.GraphWeightsSaid :=
  OpenClaim.holds_of_wide 12 Tryz.f12 rfl rfl rfl rfl rfl rfl rfl ⟨rfl, rfl, rfl, rfl, rfl⟩ rfl rfl rfl rfl rfl (by kernel_rfl) Tryz.func12 (by kernel_rfl)
    (of_decide_eq_true (by kernel_rfl)) (by unfold Func.isWrapper; rw [if_neg (of_decide_eq_false (by kernel_rfl))]; exact ⟨rfl, rfl⟩)
    (fun os started H enc _ => lifted os started H enc)
end Go.Proofs.YtdfpmolkkbplpaaGreat.graphWeights
