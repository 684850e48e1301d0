/- For every graph of the second form and every sort: the names are told as the document tells them; the list is new memory; the graph stays as it was. -/
import Derived.Test.YthnaipgdjbaebaaGreatOpen
import Derived.Test.YthnaipgdjbaebaaGreatRows
import Derived.Test.YthnaipgdjbaebaaGreatBulk
import Derived.Deep.CondSized
import Derived.Test.YthnaipgdjbaebaaGreatGrSpeak
import Derived.Test.YthnaipgdjbaebaaGreatGrOpenU
import Derived.Test.YthnaipgdjbaebaaGreatGrNamesSt
import Derived.Test.YthnaipgdjbaebaaGreatGrRefNamesA
import Derived.Test.YthnaipgdjbaebaaGreatGrRefNamesO
import Derived.Test.YthnaipgdjbaebaaGreatGrStore
import Derived.Test.YthnaipgdjbaebaaGreatGrRefSameB
import Derived.Test.YthnaipgdjbaebaaGreatGrCopyA
import Derived.Deep.QuietTactic
import Derived.BigQuiet
import Derived.Deep.RegionHeld3
import Derived.Deep.Cut
namespace Go.Proofs.YthnaipgdjbaebaaGreat.graphLists
open Go.ChangeShapes Go.WideShapes Go.ChangeAt Go.RowKit
open Go.ChangeMaps (open_string shut_string)
set_option linter.unusedVariables false
set_option linter.unusedSimpArgs false

/-- the names of a sort, of any number -/
def sortNames (g : Gv) (s : Int) : List ByteArray := if s = 1 then gnames g 1 else if s = 2 then gnames g 2 else if s = 3 then gnames g 3 else []
theorem sortNames_len {g : Gv} (hf : GFew g) (s : Int) : (sortNames g s).length ≤ 1048576 := by
  obtain ⟨h1, h2, h3⟩ := hf
  unfold sortNames
  split
  · exact h1
  · split
    · simp only [gnames, typesOf, List.length_map]; exact h3
    · split
      · simp only [gnames, List.length_map]; exact h2
      · simp
theorem flat_typ : ∀ L : List Rv, L.flatMap (fun r : Rv => [r.typ]) = L.map (·.typ)
  | [] => rfl
  | r :: l => by rw [List.flatMap_cons, flat_typ l]; rfl
theorem refNames_sort (g : Gv) (s : Int) (A A' : Option Addr) (c c' B : Nat) (w : World) (h : GR w B g A A') (hB : B ≤ w.heap.size) (hf : GFew g) :
    Calls Tryz.prog 27 #[gagg g A c A' c', .int .i64 s] w (NewSt (srt (sortNames g s)) w) := by
  have hl := sortNames_len hf s
  have e1 : gnames g 1 = g.nodes.flatMap (fun n : Nv => n.labels) ++ g.rels.flatMap (fun _ : Rv => ([] : List ByteArray)) := by simp [gnames, labelsOf]
  have e2 : gnames g 2 = g.nodes.flatMap (fun _ : Nv => ([] : List ByteArray)) ++ g.rels.flatMap (fun r : Rv => [r.typ]) := by rw [flat_typ]; simp [gnames, typesOf]
  have e3 : gnames g 3 = g.nodes.flatMap (fun n : Nv => n.props.map (·.key)) ++ g.rels.flatMap (fun r : Rv => r.props.map (·.key)) := by simp [gnames, gprops, List.map_flatMap]
  have e4 : ([] : List ByteArray) = g.nodes.flatMap (fun _ : Nv => ([] : List ByteArray)) ++ g.rels.flatMap (fun _ : Rv => ([] : List ByteArray)) := by simp
  unfold sortNames at hl ⊢
  by_cases s1 : s = 1
  · rw [if_pos s1] at hl ⊢; rw [e1] at hl ⊢; exact refNamesL_any g s s1 A A' c c' B w h hB (by omega)
  · rw [if_neg s1] at hl ⊢
    by_cases s2 : s = 2
    · rw [if_pos s2] at hl ⊢; rw [e2] at hl ⊢; exact refNamesT_any g s s2 A A' c c' B w h hB (by omega)
    · rw [if_neg s2] at hl ⊢
      by_cases s3 : s = 3
      · rw [if_pos s3] at hl ⊢; rw [e3] at hl ⊢; exact refNamesK_any g s s3 A A' c c' B w h hB (by omega)
      · rw [if_neg s3] at hl ⊢; rw [e4] at hl ⊢; exact refNamesO_any g s s1 s2 s3 A A' c c' B w h hB (by omega)
theorem gNames_sort (g : Gv) (s : Int) (A A' : Option Addr) (c c' B : Nat) (w : World) (h : GR w B g A A') (hB : B ≤ w.heap.size) (hf : GFew g) :
    Calls Tryz.prog 28 #[gagg g A c A' c', .int .i64 s] w (NewSt (srt (sortNames g s)) w) := by
  have hl := sortNames_len hf s
  have hbo : Below w.heap.size w (w.alloc (.cells #[.slice A g.nodes.length c, .slice A' g.rels.length c'] 27)) := (Below.refl _ _).alloc (Nat.le_refl _) _
  refine gNamesSt_of s _ A A' _ c _ c' w (by omega) ?_
  have hN := GNames_any g A A' c c' B _ (h.below (hbo.mono hB)) (Nat.le_trans hB hbo.size) (by have := hf.1; unfold labelsOf; omega) (by have := hf.2.1; omega)
  unfold sortNames
  by_cases s1 : s = 1
  · rw [if_pos s1, s1]; exact hN 1 (.inl rfl)
  · rw [if_neg s1]
    by_cases s2 : s = 2
    · rw [if_pos s2, s2]; exact hN 2 (.inr (.inl rfl))
    · rw [if_neg s2]
      by_cases s3 : s = 3
      · rw [if_pos s3, s3]; exact hN 3 (.inr (.inr rfl))
      · rw [if_neg s3]; exact names0_any s s1 s2 s3 A A' _ c _ c' _

set_option maxRecDepth 100000 in
set_option maxHeartbeats 4000000 in
theorem walk (w : World) {g : Gv} {A : Option Addr} {c : Nat} {A' : Option Addr} {c' : Nat} (hx : GR w w.heap.size g A A' ∧ GBig g ∧ GFew g) {s : Int} (hs : i64ok s) :
    Calls Tryz.prog 11 #[gagg g A c A' c', .int .i64 s] w fun e w' => e = .returned (.bool true) ∧ Below w.heap.size w w' := by
  obtain ⟨hg, hb, hfew⟩ := hx
  obtain ⟨j0, hj, hy0, hy1, hy2⟩ := info_parts str_info
  have hbw : ∀ w', Below w.heap.size w w' → GR w' w'.heap.size g A A' := fun w' h => (hg.below h).more h.size
  have hsl := srt_len _ _ (Nat.le_refl (sortNames g s).length)
  have hml := sortNames_len hfew s
  have HC : Hid (∀ (l : List Ass) (w' : World) [Stable (Sep l)], St Zf l w w' → Calls Tryz.prog 18 #[gagg g A c A' c'] w' fun e w'' => ∃ D d D' d', e = .returned (gagg g D d D' d') ∧ St Zf (GA g D d D' d' :: l) w w'') := Lib.hid fun l w' _ h =>
    (refGCopy_any g A A' c c' w'.heap.size w' (hbw w' h.bel) hb (Nat.le_refl _)).mono fun e w'' ⟨D, d, D', d', F, e1, e2, e3, e4⟩ => ⟨D, d, D', d', e1, h.add e4 e2 e3⟩
  have HGR : Hid (∀ (l : List Ass) (w' : World) D d D' d', St Zf (GA g D d D' d' :: l) w w' → GR w' w'.heap.size g D D') := Lib.hid fun l w' D d D' d' h => by
    obtain ⟨F, hF⟩ := h.head
    exact hF.reads hg.2.2.1 hg.2.2.2
  have HN : Hid (∀ w', Below w.heap.size w w' → Calls Tryz.prog 27 #[gagg g A c A' c', .int .i64 s] w' (NewSt (srt (sortNames g s)) w')) := Lib.hid fun w' hb' =>
    refNames_sort g s A A' c c' w'.heap.size w' (hbw w' hb') (Nat.le_refl _) hfew
  have HM : Hid (∀ w' D d D' d', GR w' w'.heap.size g D D' → Calls Tryz.prog 28 #[gagg g D d D' d', .int .i64 s] w' (NewSt (srt (sortNames g s)) w')) := Lib.hid fun w' D d D' d' hG =>
    gNames_sort g s D D' d d' w'.heap.size w' hG (Nat.le_refl _) hfew
  have HS : Hid (∀ w' D d D' d', Below w.heap.size w w' → GR w' w'.heap.size g D D' → Calls Tryz.prog 21 #[gagg g D d D' d', gagg g A c A' c'] w' fun e w'' => e = .returned (.bool true) ∧ Below w'.heap.size w' w'') := Lib.hid fun w' D d D' d' hb' hG =>
    (refGSame_any g g D D' d d' A A' c c' w'.heap.size w' hG (hbw w' hb') (Nat.le_refl _)).mono fun e w'' ⟨e1, e2⟩ => ⟨by rw [e1, sameG_self], e2⟩
  have HF : Hid (∀ (l : List Ass) w', St Zf (BlkA w.heap.size 27 #[.slice A g.nodes.length c, .slice A' g.rels.length c'] :: l) w w' → w'.cell? ⟨w.heap.size, 0, none⟩ = some (.slice A g.nodes.length c) ∧ w'.cell? ⟨w.heap.size, 1, none⟩ = some (.slice A' g.rels.length c')) := Lib.hid fun l w' h => gr_cells h
  have h0 := (St.start Zf w).newBlk 27 #[.slice A g.nodes.length c, .slice A' g.rels.length c']
  obtain ⟨wo, hwo⟩ : ∃ x, x = w.alloc (.cells #[.slice A g.nodes.length c, .slice A' g.rels.length c'] 27) := ⟨_, rfl⟩
  rw [← hwo] at h0
  have Hwo := Lib.hid hwo
  obtain ⟨T, hT⟩ : ∃ t, t = srt (sortNames g s) := ⟨_, rfl⟩
  rw [← hT] at HN HM hsl
  have hTl : T.length ≤ 1048576 := by omega
  have HT : Hid (∀ (A1 A2 : Option Addr) (c1 c2 : Nat) (w' : World), RL svl w' w'.heap.size A1 T → RL svl w' w'.heap.size A2 T → Calls Tryz.prog 29 #[.slice A1 T.length c1, .slice A2 T.length c2] w' (SameB true w')) := Lib.hid fun A1 A2 c1 c2 w' r1 r2 => by
    have := refSameTexts_any A1 A2 c1 c2 w'.heap.size w'.heap.size T T w' r1 r2 (by omega) (by omega)
    rwa [decide_eq_true (rfl : T = T)] at this
  simp only [gagg] at HC HN HM HS ⊢
  obtain ⟨nn, hnn⟩ : ∃ n, n = g.nodes.length := ⟨_, rfl⟩
  obtain ⟨nr, hnr⟩ : ∃ n, n = g.rels.length := ⟨_, rfl⟩
  rw [← hnn, ← hnr] at HC HN HM HS HF h0 Hwo ⊢
  clear hg hb hbw hwo hT hnn hnr hfew hsl hml hs
  go_enter Tryz.func11, Tryz.ntmps11
  go_wp2_with fail
  rw [← Hwo.out]
  refine (speaks6_any wo).mono ?_
  rintro e w1 ⟨rfl, hb1⟩
  have h1 := h0.below hb1
  obtain ⟨c0, c1⟩ := HF.out _ _ h1
  clear h0 hb1
  go_wp2_with fail
  refine (HC.out _ _ h1).mono ?_
  rintro e w2 ⟨D, d, D', d', rfl, h2⟩
  have h3 := h2.newBlk 27 #[.slice D nn d, .slice D' nr d']
  have hlt2 := h2.drop.blk.lt
  obtain ⟨y0, y1⟩ := HF.out _ _ h2.drop
  obtain ⟨w3, hw3⟩ : ∃ x, x = w2.alloc (.cells #[.slice D nn d, .slice D' nr d'] 27) := ⟨_, rfl⟩
  rw [← hw3] at h3
  have Hw3 := Lib.hid hw3
  clear hw3 h2 c0 c1 h1
  go_wp2_with fail
  rw [← Hw3.out]
  refine (HN.out _ h3.bel).mono ?_
  rintro e w4 ⟨v4, rfl, ho4, hb4⟩
  obtain ⟨A4, c4, rfl, -, -, -, -⟩ := ho4.form
  have h4 := (h3.newOl ho4 hb4).swap
  clear y0 y1 h3 ho4 hb4
  obtain ⟨x0, x1⟩ := gr_cells h4
  have H4 := Lib.hid h4
  clear h4
  go_wp2
  go_region_held3 (fun w' => w'.cell? ⟨w2.heap.size, 0, none⟩ = some (.slice D nn d) ∧ w'.cell? ⟨w2.heap.size, 1, none⟩ = some (.slice D' nr d')) (go_keep)
    ((first
      | (go_at_call 28; refine (HM.out w4.drew D d D' d' (HGR.out _ _ _ _ _ _ H4.out.drew.bring2)).mono ?_; rintro e w5 ⟨v5, rfl, ho5, hb5⟩; have h5 := Lib.hid (H4.out.drew.newOl ho5 hb5).swap; obtain ⟨A5, c5, rfl, -, -, -, -⟩ := ho5.form; have k5 := gr_cells h5.out; obtain ⟨_, _⟩ := k5; clear ho5 hb5)
      | (go_at_call 28; refine (HM.out w5 D d D' d' (HGR.out _ _ _ _ _ _ h5.out.bring3)).mono ?_; rintro e w6 ⟨v6, rfl, ho6, hb6⟩; have h6 := Lib.hid (h5.out.newOl ho6 hb6).bring2; obtain ⟨A6, c6, rfl, -, -, -, -⟩ := ho6.form; have k6 := gr_cells h6.out.bring2; obtain ⟨_, _⟩ := k6; clear ho6 hb6)))
  have H6 := Lib.hid h6.out
  clear h5 h6 H4 HM HN HC
  go_wp2_with fail
  refine (HT.out A5 A4 c5 c4 _ H6.out.ol.reads.2.1 H6.out.bring3.ol.reads.2.1).mono ?_
  rintro e w7 ⟨rfl, n7, hw7⟩
  have h7 := H6.out.drewN n7
  rw [← hw7] at h7
  clear hw7 H6
  go_wp2
  go_loopw [29] (fun i wr => ∃ (k : Nat) (X : List ByteArray), k ≤ T.length ∧ i = .int .i64 k ∧ X.length = T.length ∧ St Zf [OlA svl 9 (.slice A5 T.length c5) X, OlA svl 9 (.slice A6 T.length c6) T, BlkA w2.heap.size 27 #[.slice D nn d, .slice D' nr d'], OlA svl 9 (.slice A4 T.length c4) T, GA g D d D' d', BlkA w.heap.size 27 #[.slice A nn c, .slice A' nr c']] w wr) (fun i _ => T.length - (intOf i).toNat)
  case atStart => exact ⟨0, T, Nat.zero_le _, rfl, rfl, h7⟩
  case round =>
    obtain ⟨k, X, hk, rfl, hXl, hst⟩ := hrel
    clear h7
    by_cases hlt : k < T.length
    · obtain ⟨g', hA, ⟨u0, hu0⟩, hfz, hst'⟩ := hst.storeOl hXl hlt (⟨#[42]⟩ : ByteArray) (svl_ok _)
      subst hA
      have HST := Lib.hid hst'
      have HXL : Hid ((X.set k (⟨#[42]⟩ : ByteArray)).length = T.length) := Lib.hid (by rw [List.length_set, hXl])
      have hi0 : (0 : Int) ≤ (k : Int) := by omega
      have hi1 : (k : Int) < (T.length : Int) := by omega
      clear hst hst' hXl
      go_wp2
      go_roundw
      case rel => exact ⟨k + 1, _, by omega, by go_num, HXL.out, HST.out⟩
      case measure => simp [intOf]; omega
    · obtain rfl : k = T.length := by omega
      have hrl := RL.litS wr 9 [⟨#[42]⟩, ⟨#[42]⟩, ⟨#[42]⟩] #[.string ⟨#[42]⟩, .string ⟨#[42]⟩, .string ⟨#[42]⟩] rfl (by decide)
      have HST := Lib.hid (hst.alloc (.cells #[.string ⟨#[42]⟩, .string ⟨#[42]⟩, .string ⟨#[42]⟩] 9))
      have HRL := Lib.hid hrl
      have hby : (X.length + 3) * 16 ≤ 140737488355328 := by omega
      have hXO := Lib.hid hXl
      clear hst hrl hXl
      go_wp2_with (at_builtin; refine wpList_append_list _ rfl _ _ 37 rfl 0 9 j0 _ 16 Tryz.underlying37 hj hy0 hy1 hy2 rfl _ X (by rfl) HST.out.ol _ _ _ [⟨#[42]⟩, ⟨#[42]⟩, ⟨#[42]⟩] 3 rfl (by rfl) HRL.out hby (by omega) (Nat.zero_le _) ?_; intro v10 w10 hown10 hg10 hat10; have h10 := HST.out.grewOl hown10 hg10 hat10 (Nat.le_refl _); obtain ⟨A10, c10, rfl, -, -, -, -⟩ := hown10.form; have H10 := Lib.hid h10.drop; clear hown10 hg10 hat10 h10 HST HRL hby)
      refine (HT.out A6 A4 c6 c4 _ H10.out.ol.reads.2.1 H10.out.bring2.ol.reads.2.1).mono ?_
      rintro e w11 ⟨rfl, n11, hw11⟩
      have h11 := H10.out.drewN n11
      rw [← hw11] at h11
      obtain ⟨x0, x1⟩ := gr_cells h11.swap
      obtain ⟨y0, y1⟩ := HF.out _ _ h11.bring4
      clear hw11 H10
      go_wp2_with fail
      refine (HS.out _ D d D' d' h11.bel (HGR.out _ _ _ _ _ _ h11.bring3)).mono ?_
      rintro e w12 ⟨rfl, hb12⟩
      have h12 := h11.below hb12
      go_wp2
      go_ret
      exact ⟨rfl, h12.bel⟩

/-! ### THE ROW's STEP -/
theorem own : ownKnob Tryz.prog.godebug = none := by kernel_rfl
theorem laidOut : laidOutB Tryz.prog = true := by kernel_rfl

set_option maxRecDepth 100000 in
theorem contract (H : Type) (enc : TypeId × Value → H) (W : World) (base : Nat) (args : Array Value) (ds gs : List (DataW H)) (before : List MemPlace)
    (hval0 : ∀ (j : Nat) t v, Tryz.f11.params[j]? = some t → args[j]? = some v → Value.okWide Tryz.prog W .any base t v)
    (hW : DataW.Whole enc Tryz.prog Tryz.f11.params.toList Rows.graphListsSpec.vars false W args.toList ds gs before)
    (hk : Rows.uptoSmall H (ds ++ gs) = true)
    (hsz : (DataW.weightsEach Tryz.prog (Tryz.f11.params.toList ++ (Rows.OpenSpec.upto Rows.graphListsSpec).bare.plain.varTypes Tryz.prog) (ds ++ gs)).all (· ≤ reachBytes) = true) :
    Calls Tryz.prog 11 args W fun e W' => ∃ v, e = .returned v ∧ Rows.graphListsSpec.post enc Tryz.prog Tryz.f11 false true false false W args v W' := by
  have hval : ∀ (j : Nat) t v, Tryz.f11.params[j]? = some t → args[j]? = some v → Value.okWide Tryz.prog W .any base t v := hval0
  have hW' := hW
  obtain ⟨p, q, hA0, hV, rfl, hfz, hnd⟩ := hW
  have hA : DataW.TrodAll enc Tryz.prog W 0 (fun _ => true) true Tryz.f11.params.toList args.toList ds p := hA0
  rw [Tryz.params11] at hA hval
  obtain ⟨v0, vs0, d0, ds0, p0, q0, hargs, rfl, rfl, h0, r0⟩ := trodAll_cons hA
  obtain ⟨v1, vs1, d1, ds1, p1, q1, rfl, rfl, rfl, h1, r1⟩ := trodAll_cons r0
  obtain ⟨rfl, rfl, rfl⟩ := trodAll_nil r1
  obtain rfl : args = #[v0, v1] := by cases args; simp_all
  obtain ⟨rfl, rfl⟩ := trodVars_none hV
  have k0 := h0
  have lt0 : ∀ x ∈ p0, x.block < W.heap.size := by obtain ⟨m, hm⟩ := k0; exact DataW.trod_lt m _ _ _ hm
  have w0 := reach_at hsz (j := 0) rfl rfl
  have u0 : Rows.uptoBulk d0 ≤ 1048576 := bulk_at hk (by simp)
  have k1 := h1
  have lt1 : ∀ x ∈ p1, x.block < W.heap.size := by obtain ⟨m, hm⟩ := k1; exact DataW.trod_lt m _ _ _ hm
  have w1 := reach_at hsz (j := 1) rfl rfl
  have u1 : Rows.uptoBulk d1 ≤ 1048576 := bulk_at hk (by simp)
  clear hA0 hval0 hsz
  obtain ⟨g0, A0, c0, B0, d0, rfl, hx0⟩ := open_graphU (hval 0 _ v0 rfl rfl) w0 h0 lt0 u0
  obtain ⟨a1, rfl, rfl, rfl, wf1⟩ := open_int Tryz.underlying3 (hval 1 3 v1 rfl rfl) h1
  refine (walk W hx0 (bounds_i64 wf1)).mono fun e W' ⟨he, bel⟩ => ?_
  subst he
  exact ⟨_, rfl, _, _, _, [], _, [], hW', trodAll_mk1 (shut_bool Tryz.underlying4 _), (trodAll_cons_mk (Below.trod laidOut (by kernel_rfl) (of_decide_eq_true (by kernel_rfl)) k0 bel lt0) (trodAll_cons_mk (Below.trod laidOut (by kernel_rfl) (of_decide_eq_true (by kernel_rfl)) k1 bel lt1) trodAll_mk0)), rfl, bel.frame _, fun h => by cases h⟩

set_option maxRecDepth 100000 in
theorem lifted (os : Os) (started : os.Started) (H : Type) (enc : TypeId × Value → H) (F : Stop.Interp) :
    ReturnsInHanded {} Tryz.checked os 11 .any ((Rows.OpenSpec.upto Rows.graphListsSpec).pre6 enc Tryz.prog Tryz.f11 Rows.graphListsUptoRow.domain false) (((Rows.OpenSpec.upto Rows.graphListsSpec).at F).post enc Tryz.prog Tryz.f11 false true false false) := by
  refine returnsInHanded_of_cond_sized (C := Tryz.checked) (s := (Rows.OpenSpec.upto Rows.graphListsSpec)) (k := Rows.uptoSmall) rfl own started (by kernel_rfl) Tryz.func11
    (OpenSpec.witness (enc := enc) (C := Tryz.checked) (s := (Rows.OpenSpec.upto Rows.graphListsSpec)) (k := Rows.uptoSmall) rfl false ⟨#[], #[.agg #[.slice none 0 0, .slice none 0 0], .int .i64 0], []⟩ 8 (by kernel_rfl) (by kernel_rfl) (by kernel_rfl)
      (x := ([.agg [.nil, .nil], .lit (.int .i64 0)], [], [])) (by kernel_rfl) rfl (by kernel_rfl)) ?_
  intro W base args ds gs before hval hW _ hk hsz _
  exact contract H enc W base args ds gs before hval hW hk hsz

/-- THE STATEMENT -/
theorem proved : Rows.GraphListsUptoSaid :=
  OpenClaim.holds_of_cond 11 Tryz.f11 rfl rfl rfl rfl rfl rfl rfl ⟨rfl, rfl, rfl, rfl, rfl⟩ rfl rfl rfl rfl rfl (by kernel_rfl) Tryz.func11 (by kernel_rfl)
    (of_decide_eq_true (by kernel_rfl)) (by unfold Func.isWrapper; rw [if_neg (of_decide_eq_false (by kernel_rfl))]; exact ⟨rfl, rfl⟩)
    (fun os started H enc _ F => lifted os started H enc F)
end Go.Proofs.YthnaipgdjbaebaaGreat.graphLists
