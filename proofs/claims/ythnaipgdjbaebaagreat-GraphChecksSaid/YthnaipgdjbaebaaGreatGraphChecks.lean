/- For every graph: what is wrong first, and where, is told exactly as the document says; the graph stays as it was. -/
import Derived.Test.YthnaipgdjbaebaaGreatOpen
import Derived.Test.YthnaipgdjbaebaaGreatRows
import Derived.Test.YthnaipgdjbaebaaGreatGrSpeak
import Derived.Test.YthnaipgdjbaebaaGreatGrOpenG
import Derived.Test.YthnaipgdjbaebaaGreatGrRefCheck
import Derived.Test.YthnaipgdjbaebaaGreatGrRefSameB
import Derived.Test.YthnaipgdjbaebaaGreatGrCopyA
import Derived.Deep.QuietTactic
import Derived.BigQuiet
import Derived.Deep.RegionHeld3
import Derived.Deep.Cut
namespace Go.Proofs.YthnaipgdjbaebaaGreat.graphChecks
open Go.ChangeShapes Go.WideShapes Go.ChangeAt Go.RowKit
open Go.ChangeMaps (open_string shut_string)
set_option linter.unusedVariables false
set_option linter.unusedSimpArgs false


set_option maxRecDepth 100000 in
set_option maxHeartbeats 2000000 in
theorem walk (w : World) {g : Gv} {A : Option Addr} {c : Nat} {A' : Option Addr} {c' : Nat} (hx : GR w w.heap.size g A A' ∧ GBig g) :
    Calls Tryz.prog 5 #[gagg g A c A' c'] w fun e w' => e = .returned (.bool true) ∧ Below w.heap.size w w' := by
  obtain ⟨hg, hb⟩ := hx
  have hids := hg.ids
  have hbw : ∀ w', Below w.heap.size w w' → GR w' w'.heap.size g A A' := fun w' h => (hg.below h).more h.size
  have HC : Hid (∀ (l : List Ass) (w' : World) [Stable (Sep l)], St Zf l w w' → Calls Tryz.prog 18 #[gagg g A c A' c'] w' fun e w'' => ∃ D d D' d', e = .returned (gagg g D d D' d') ∧ St Zf (GA g D d D' d' :: l) w w'') := Lib.hid fun l w' _ h =>
    (refGCopy_any g A A' c c' w'.heap.size w' (hbw w' h.bel) hb (Nat.le_refl _)).mono fun e w'' ⟨D, d, D', d', F, e1, e2, e3, e4⟩ => ⟨D, d, D', d', e1, h.add e4 e2 e3⟩
  have HGR : Hid (∀ (l : List Ass) (w' : World) D d D' d', St Zf (GA g D d D' d' :: l) w w' → GR w' w'.heap.size g D D') := Lib.hid fun l w' D d D' d' h => by
    obtain ⟨F, hF⟩ := h.head
    exact hF.reads hg.2.2.1 hg.2.2.2
  have HD : Hid (∀ w' D d D' d', GR w' w'.heap.size g D D' → Calls Tryz.prog 19 #[gagg g D d D' d'] w' fun e w'' => e = .returned (.tuple #[.int .i64 (gcheck g).1, .int .i64 (gcheck g).2]) ∧ Below w'.heap.size w' w'') := Lib.hid fun w' D d D' d' hG =>
    gCheck_any g D D' d d' w'.heap.size w' hG (Nat.le_refl _) hids
  have HR : Hid (∀ w', Below w.heap.size w w' → Calls Tryz.prog 20 #[gagg g A c A' c'] w' fun e w'' => e = .returned (.tuple #[.int .i64 (gcheck g).1, .int .i64 (gcheck g).2]) ∧ Below w'.heap.size w' w'') := Lib.hid fun w' hb' =>
    refCheck6_any g A A' c c' w'.heap.size w' (hbw w' hb') (Nat.le_refl _)
  have HS : Hid (∀ w' D d D' d', Below w.heap.size w w' → GR w' w'.heap.size g D D' → Calls Tryz.prog 21 #[gagg g D d D' d', gagg g A c A' c'] w' fun e w'' => e = .returned (.bool true) ∧ Below w'.heap.size w' w'') := Lib.hid fun w' D d D' d' hb' hG =>
    (refGSame_any g g D D' d d' A A' c c' w'.heap.size w' hG (hbw w' hb') (Nat.le_refl _)).mono fun e w'' ⟨e1, e2⟩ => ⟨by rw [e1, sameG_self], e2⟩
  have HF : Hid (∀ (l : List Ass) w', St Zf (BlkA w.heap.size 27 #[.slice A g.nodes.length c, .slice A' g.rels.length c'] :: l) w w' → w'.cell? ⟨w.heap.size, 0, none⟩ = some (.slice A g.nodes.length c) ∧ w'.cell? ⟨w.heap.size, 1, none⟩ = some (.slice A' g.rels.length c')) := Lib.hid fun l w' h => gr_cells h
  have h0 := (St.start Zf w).newBlk 27 #[.slice A g.nodes.length c, .slice A' g.rels.length c']
  obtain ⟨wo, hwo⟩ : ∃ x, x = w.alloc (.cells #[.slice A g.nodes.length c, .slice A' g.rels.length c'] 27) := ⟨_, rfl⟩
  rw [← hwo] at h0
  have Hwo := Lib.hid hwo
  obtain ⟨t, ht⟩ : ∃ t, t = (gcheck g).1 := ⟨_, rfl⟩
  obtain ⟨s, hs⟩ : ∃ t, t = (gcheck g).2 := ⟨_, rfl⟩
  rw [← ht, ← hs] at HD HR
  have et : (t == t) = true := by simp
  have es : (s == s) = true := by simp
  simp only [gagg] at HC HD HR HS ⊢
  obtain ⟨nn, hnn⟩ : ∃ n, n = g.nodes.length := ⟨_, rfl⟩
  obtain ⟨nr, hnr⟩ : ∃ n, n = g.rels.length := ⟨_, rfl⟩
  rw [← hnn, ← hnr] at HC HD HR HS HF h0 Hwo ⊢
  clear hg hb hbw hwo ht hs hids hnn hnr
  go_enter Tryz.func5, Tryz.ntmps5
  go_wp2_with fail
  rw [← Hwo.out]
  refine (speaks6_any wo).mono ?_
  rintro e w1 ⟨rfl, hb1⟩
  have h1 := h0.below hb1
  obtain ⟨c0, c1⟩ := HF.out _ _ h1
  clear h0 hb1
  go_wp2_with fail
  refine (HC.out _ _ h1).mono ?_
  rintro e w2 ⟨D, d, D', d', rfl, h2⟩
  have h3 := h2.newBlk 27 #[.slice D nn d, .slice D' nr d']
  obtain ⟨w3, hw3⟩ : ∃ x, x = w2.alloc (.cells #[.slice D nn d, .slice D' nr d'] 27) := ⟨_, rfl⟩
  rw [← hw3] at h3
  have Hw3 := Lib.hid hw3
  obtain ⟨x0, x1⟩ := gr_cells h3
  obtain ⟨y0, y1⟩ := HF.out _ _ h3.bring2
  clear hw3 h2 c0 c1 h1
  go_wp2_with fail
  rw [← Hw3.out]
  refine (HD.out _ D d D' d' (HGR.out _ _ _ _ _ _ h3.drop)).mono ?_
  rintro e w4 ⟨rfl, hb4⟩
  have h4 := h3.below hb4
  clear x0 x1 y0 y1 h3 hb4
  obtain ⟨x0, x1⟩ := gr_cells h4
  obtain ⟨y0, y1⟩ := HF.out _ _ h4.bring2
  go_wp2_with fail
  refine (HR.out _ h4.bel).mono ?_
  rintro e w5 ⟨rfl, hb5⟩
  have h5 := h4.below hb5
  clear x0 x1 y0 y1 h4 hb5
  obtain ⟨x0, x1⟩ := gr_cells h5
  obtain ⟨y0, y1⟩ := HF.out _ _ h5.bring2
  go_wp2_with fail
  refine (HS.out _ D d D' d' h5.bel (HGR.out _ _ _ _ _ _ h5.drop)).mono ?_
  rintro e w6 ⟨rfl, hb6⟩
  have h6 := h5.below hb6
  go_wp2
  go_ret
  exact ⟨rfl, h6.bel⟩

/-! ### THE ROW's STEP -/
theorem own : ownKnob Tryz.prog.godebug = none := by kernel_rfl
theorem laidOut : laidOutB Tryz.prog = true := by kernel_rfl

set_option maxRecDepth 100000 in
theorem contract (H : Type) (enc : TypeId × Value → H) (W : World) (base : Nat) (args : Array Value) (ds gs : List (DataW H)) (before : List MemPlace)
    (hval0 : ∀ (j : Nat) t v, Tryz.f5.params[j]? = some t → args[j]? = some v → Value.okWide Tryz.prog W .any base t v)
    (hW : DataW.Whole enc Tryz.prog Tryz.f5.params.toList Rows.graphChecksSpec.vars false W args.toList ds gs before)
    (hsz : (DataW.weightsEach Tryz.prog (Tryz.f5.params.toList ++ (OpenSpec.ofChange Rows.graphChecksSpec).bare.plain.varTypes Tryz.prog) (ds ++ gs)).all (· ≤ reachBytes) = true) :
    Calls Tryz.prog 5 args W fun e W' => ∃ v, e = .returned v ∧ Rows.graphChecksSpec.post enc Tryz.prog Tryz.f5 false true false false W args v W' := by
  have hval : ∀ (j : Nat) t v, Tryz.f5.params[j]? = some t → args[j]? = some v → Value.okWide Tryz.prog W .any base t v := hval0
  have hW' := hW
  obtain ⟨p, q, hA0, hV, rfl, hfz, hnd⟩ := hW
  have hA : DataW.TrodAll enc Tryz.prog W 0 (fun _ => true) true Tryz.f5.params.toList args.toList ds p := hA0
  rw [Tryz.params5] at hA hval
  obtain ⟨v0, vs0, d0, ds0, p0, q0, hargs, rfl, rfl, h0, r0⟩ := trodAll_cons hA
  obtain ⟨rfl, rfl, rfl⟩ := trodAll_nil r0
  obtain rfl : args = #[v0] := by cases args; simp_all
  obtain ⟨rfl, rfl⟩ := trodVars_none hV
  have k0 := h0
  have lt0 : ∀ x ∈ p0, x.block < W.heap.size := by obtain ⟨m, hm⟩ := k0; exact DataW.trod_lt m _ _ _ hm
  have w0 := reach_at hsz (j := 0) rfl rfl
  clear hA0 hval0 hsz
  obtain ⟨g0, A0, c0, B0, d0, rfl, hx0⟩ := open_graph (hval 0 _ v0 rfl rfl) w0 h0 lt0
  refine (walk W hx0).mono fun e W' ⟨he, bel⟩ => ?_
  subst he
  exact ⟨_, rfl, _, _, _, [], _, [], hW', trodAll_mk1 (shut_bool Tryz.underlying4 _), (trodAll_cons_mk (Below.trod laidOut (by kernel_rfl) (of_decide_eq_true (by kernel_rfl)) k0 bel lt0) trodAll_mk0), rfl, bel.frame _, fun h => by cases h⟩

set_option maxRecDepth 100000 in
theorem lifted (os : Os) (started : os.Started) (H : Type) (enc : TypeId × Value → H) :
    ReturnsInHanded {} Tryz.checked os 5 .any (Rows.graphChecksSpec.pre6 enc Tryz.prog Tryz.f5 Rows.graphChecksRow.domain false) (Rows.graphChecksSpec.post enc Tryz.prog Tryz.f5 false true false false) := by
  refine returnsInHanded_of_change_sized (C := Tryz.checked) own started (by kernel_rfl) Tryz.func5
    (ChangeSpec.witness6 (enc := enc) (C := Tryz.checked) false ⟨#[], #[.agg #[.slice none 0 0, .slice none 0 0]], []⟩ 8 (by kernel_rfl) (by kernel_rfl) (by kernel_rfl) (by kernel_rfl)) ?_
  intro W base args ds gs before hval hW _ hsz _
  exact contract H enc W base args ds gs before hval hW hsz

/-- THE STATEMENT -/
theorem proved : Rows.GraphChecksSaid :=
  OpenClaim.holds_of_wide 5 Tryz.f5 rfl rfl rfl rfl rfl rfl rfl ⟨rfl, rfl, rfl, rfl, rfl⟩ rfl rfl rfl rfl rfl (by kernel_rfl) Tryz.func5 (by kernel_rfl)
    (of_decide_eq_true (by kernel_rfl)) (by unfold Func.isWrapper; rw [if_neg (of_decide_eq_false (by kernel_rfl))]; exact ⟨rfl, rfl⟩)
    (fun os started H enc _ => lifted os started H enc)
end Go.Proofs.YthnaipgdjbaebaaGreat.graphChecks
