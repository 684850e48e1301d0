/- cell: readTexts, read. -/
import Derived.Test.YthfoffcfbfmajaaGreatDoorCeText2
namespace Go.Proofs.YthfoffcfbfmajaaGreatDoor
open Go.RowKit
set_option linter.unusedVariables false

/-- what readTexts answers -/
def RdTs (l : Bs) (w : World) (e : Ending) (w' : World) : Prop := ∃ A c, e = .returned (.tuple #[.slice A (readV 8 l).1.ts.length c, .int .i64 (readV 8 l).2]) ∧ St Zf [OlA svl 9 (.slice A (readV 8 l).1.ts.length c) (readV 8 l).1.ts] w w'
/-- X is read, l' is left -/
def TextsAt (l : Bs) (X : Rw) (l' : Bs) : Prop := readT l = ((readT l').map fun Y => X.map lS ++ Y) ∧ l'.length + X.length ≤ l.length
theorem TextsAt.start (l : Bs) : TextsAt l [] l := by
  refine ⟨?_, by simp⟩
  cases readT l <;> simp
theorem TextsAt.next {l l' t r : Bs} {X : Rw} (h : TextsAt l X l') (hc : cutT l' = some (t, r)) : TextsAt l (X ++ [mkS t]) r := by
  obtain ⟨h1, h2⟩ := h
  have h3 := cutT_lt hc
  rw [readT_some hc] at h1
  refine ⟨?_, by simp; omega⟩
  rw [h1]
  cases readT r <;> simp [lS_mk]
theorem TextsAt.bad {l l' : Bs} {X : Rw} (h : TextsAt l X l') (h0 : l' ≠ []) (hc : cutT l' = none) : readT l = none := by
  rw [h.1, readT_none h0 hc]
  rfl
theorem TextsAt.done {l : Bs} {X : Rw} (h : TextsAt l X []) : readV 8 l = (⟨8, 0, mkS [], [], X⟩, 0) := by
  have h1 : readT l = some (X.map lS) := by rw [h.1, readT_nil]; simp
  rw [readV_texts h1, mk_lSL]
theorem St.none_of {L0 : List Ass} {w w' : World} (h : St Zf L0 w w') : St Zf [] w w' := by
  obtain ⟨F, _, h2, _⟩ := h
  exact ⟨fun _ => False, rfl, h2, fun _ h => h.elim⟩
theorem RdTs.err {l : Bs} {w w' : World} {L0 : List Ass} (he : readT l = none) (h : St Zf L0 w w') : RdTs l w (.returned (.tuple #[.slice none 0 0, .int .i64 220])) w' := by
  unfold RdTs
  rw [readV_texts_no he]
  exact ⟨none, 0, rfl, St.nilOl (l := []) h.none_of svl 9⟩
set_option maxRecDepth 100000 in
set_option maxHeartbeats 1000000 in
theorem readTexts_any (l : Bs) (w : World) (hl : l.length ≤ 1073741824) :
    Calls Tryz.prog 36 #[.string (mkS l)] w (RdTs l w) := by
  have HL := Lib.hid hl
  obtain ⟨j0, hj, hy0, hy1, hy2⟩ := info_parts str_info
  clear hl
  go_enter Tryz.func36, Tryz.ntmps36
  go_wp2
  go_loopg [4, 5] (l.length + 1) (fun gk v r wr => ∃ (X : Rw) (l' : Bs) (A : Option Addr) (c : Nat), v = .slice A X.length c ∧ r = .string (mkS l') ∧ Hid (St Zf [OlA svl 9 (.slice A X.length c) X] w wr) ∧ Hid (TextsAt l X l' ∧ l'.length + 1 ≤ gk))
  case atStart => exact ⟨[], l, none, 0, rfl, rfl, Lib.hid ((St.start Zf w).nilOl svl 9), Lib.hid ⟨TextsAt.start _, Nat.le_refl _⟩⟩
  case round =>
    obtain ⟨X, l', A, c, rfl, rfl, HS, HN⟩ := hrel
    have hne := mkS_ne l'
    by_cases h0 : l' = []
    · subst h0
      rw [decide_eq_true rfl] at hne
      have HF : Hid (RdTs l w (.returned (.tuple #[.slice A X.length c, .int .i64 0])) wr) := Lib.hid (by
        unfold RdTs
        rw [HN.out.1.done]
        exact ⟨A, c, rfl, HS.out⟩)
      go_wp2
      go_ret2
      exact HF.out
    · rw [decide_eq_false h0] at hne
      have hl1 := HN.out.1.2
      have HC := Lib.hid (cutText_any l' wr (by have := HL.out; omega))
      unfold CutW at HC
      cases hc : cutT l' with
      | none =>
        rw [hc] at HC
        have HF : Hid (∀ w', Below wr.heap.size wr w' → RdTs l w (.returned (.tuple #[.slice none 0 0, .int .i64 220])) w') := Lib.hid fun w' hb => RdTs.err (HN.out.1.bad h0 hc) (HS.out.below hb)
        clear h0 hc hl1 HN
        go_wp2_with fail
        refine HC.out.mono ?_
        rintro e w1 ⟨rfl, hb1⟩
        have HF2 := Lib.hid (HF.out _ hb1)
        clear hb1
        go_wp2
        go_ret2
        exact HF2.out
      | some p =>
        obtain ⟨t, b⟩ := p
        have HC : Hid (Calls Tryz.prog 55 #[.string (mkS l')] wr fun e w' => e = .returned (.tuple #[.string (mkS t), .string (mkS b), .int .i64 0]) ∧ Below wr.heap.size wr w') := Lib.hid (by
          have h := HC.out
          rw [hc] at h
          exact h)
        have HN2 := Lib.hid (HN.out.1.next hc)
        have hby : (X.length + 1) * 16 ≤ 140737488355328 := by have := HL.out; omega
        have hgk : b.length + 1 + 1 ≤ gk := by have := HN.out.2; have := cutT_lt hc; omega
        obtain ⟨gk, rfl⟩ : ∃ gk', gk = gk' + 1 := ⟨gk - 1, by omega⟩
        have HG : Hid (b.length + 1 ≤ gk) := Lib.hid (by omega)
        generalize mkS t = S1 at HC HN2
        clear h0 hc hl1 hgk HN
        go_wp2_with fail
        refine HC.out.mono ?_
        rintro e w1 ⟨rfl, hb1⟩
        have HS2 := Lib.hid (HS.out.below hb1)
        clear hb1
        go_wp2_with (at_builtin; refine wpList_append_elemN _ rfl _ _ 23 rfl 0 9 j0 _ 16 Tryz.underlying23 hj hy0 hy1 hy2 rfl _ X (by rfl) HS2.out.ol S1 (svl_ok S1) _ rfl (by rfl) hby (by omega) (Nat.zero_le _) ?_; intro v7 w7 hown7 hg7 hat7; have h7 := HS2.out.grewOl hown7 hg7 hat7 (by simp); obtain ⟨O, hO⟩ : ∃ O, O = X ++ [S1] := ⟨_, rfl⟩; rw [← hO] at hown7 h7 HN2; obtain ⟨A7, c7, rfl, -, -, -, -⟩ := hown7.form; have H7 := Lib.hid h7; clear hown7 hg7 hat7 h7 hO)
        go_wp2
        go_roundg gk
        case measure => omega
        case rel => exact ⟨O, b, A7, c7, rfl, rfl, H7, Lib.hid ⟨HN2.out, HG.out⟩⟩

/-- a value, its lists new and apart -/
def NewP (p : Vv × Int) (w : World) (e : Ending) (w' : World) : Prop := ∃ A c A' c', e = .returned (.tuple #[vagg p.1 A c A' c', .int .i64 p.2]) ∧ St Zf [OlA ivl 2 (.slice A p.1.ns.length c) p.1.ns, OlA svl 9 (.slice A' p.1.ts.length c') p.1.ts] w w'
theorem results_agg_tmp {P : Program} {fn : Func} {p u : Tmp} {ty : TypeId} (h : fn.results = #[.cell p ty, .tmp u]) (tmps : Array Value) (w : World) (g : Nat) (t : TypeId) (cs : Array Value) (d : TypeDesc)
    (hp : tmps.getD p undef = .pointer (some ⟨g, 0, none⟩)) (hg : Blk w g t cs)
    (hu : P.underlying ty = some d) (hd : (match d with | .struct _ | .array _ _ => true | _ => false) = true) (hi : (P.info? ty).map (·.size) = some cs.size) :
    (results fn tmps).run P w = .ok (.tuple #[.agg cs, tmps.getD u undef]) w := by
  rw [results_cell_tmp h, hp]
  simp [asAddr, run_loadVar_row w g t ty cs (0, 0) d hg hu hd hi, Result.andThen]
theorem St.addStM {S : Fp} {l l' : List Ass} {w0 w w' : World} (h : St S l w0 w) [Stable (Sep l)] [Stable (Sep l')] (k : St Zf l' w w') : St S (l' ++ l) w0 w' := by
  have hb := k.bel
  obtain ⟨F, h1, ho, hf⟩ := k
  exact (h.add (Q := Sep l') (F := F) hb h1 fun k hk => (hf k hk).elim (fun h => h.elim) id).flat
/-- the two boxes of read: the result's, the value's -/
theorem boxes2 (w : World) (k : Int) : St Zf [BlkA (w.heap.size + 1) 25 #[.int .i64 k, .int .i64 0, .string ⟨#[]⟩, .slice none 0 0, .slice none 0 0], BlkA w.heap.size 25 #[.int .i64 0, .int .i64 0, .string ⟨#[]⟩, .slice none 0 0, .slice none 0 0]] w
    ((w.alloc (.cells #[.int .i64 0, .int .i64 0, .string ⟨#[]⟩, .slice none 0 0, .slice none 0 0] 25)).alloc (.cells #[.int .i64 k, .int .i64 0, .string ⟨#[]⟩, .slice none 0 0, .slice none 0 0] 25)) := by
  have h := ((St.start Zf w).newBlk 25 #[.int .i64 0, .int .i64 0, .string ⟨#[]⟩, .slice none 0 0, .slice none 0 0]).newBlk 25 #[.int .i64 k, .int .i64 0, .string ⟨#[]⟩, .slice none 0 0, .slice none 0 0]
  rw [World.size_alloc] at h
  exact h
theorem blk_facts {S : Fp} {l : List Ass} {w0 w : World} {g : Nat} {t : TypeId} {a b c d e : Value} (h : St S (BlkA g t #[a, b, c, d, e] :: l) w0 w) :
    (w.cell? ⟨g, 0, none⟩ = some a ∧ w.cell? ⟨g, 1, none⟩ = some b ∧ w.cell? ⟨g, 2, none⟩ = some c ∧ w.cell? ⟨g, 3, none⟩ = some d ∧ w.cell? ⟨g, 4, none⟩ = some e) ∧ (∀ i, w.frozen? ⟨g, i, none⟩ = false) ∧ g < w.heap.size :=
  ⟨⟨by rw [h.blk.cell 0]; rfl, by rw [h.blk.cell 1]; rfl, by rw [h.blk.cell 2]; rfl, by rw [h.blk.cell 3]; rfl, by rw [h.blk.cell 4]; rfl⟩, fun i => h.blk.frozen i, h.blk.lt⟩
set_option maxRecDepth 100000 in
set_option maxHeartbeats 1000000 in
theorem read_text (l : Bs) (w : World) (hl : l.length ≤ 1073741824) : Calls Tryz.prog 22 #[.int .i64 4, .string (mkS l)] w (NewP (readV 4 l) w) := by
  have HC := Lib.hid fun w => SClone_any (mkS l) w (by rw [mkS_size]; omega)
  have HB := Lib.hid (boxes2 w 4)
  rw [readV_text]
  clear hl
  generalize mkS l = S at HC ⊢
  obtain ⟨N, hN⟩ : ∃ N, N = w.heap.size := ⟨_, rfl⟩
  go_enter Tryz.func22, Tryz.ntmps22
  go_wp2_with fail
  rw [← hN] at HB ⊢
  refine (HC.out _).mono ?_
  rintro e w1 ⟨rfl, hb1⟩
  have H1 := Lib.hid (HB.out.below hb1)
  obtain ⟨⟨c0, c1, c2, c3, c4⟩, f0, l0⟩ := blk_facts H1.out
  obtain ⟨⟨d0, d1, d2, d3, d4⟩, g0, l1⟩ := blk_facts H1.out.swap
  have F0 := f0 2
  have G0 := g0 0
  have G1 := g0 1
  have G2 := g0 2
  have G3 := g0 3
  have G4 := g0 4
  clear hb1 hN HB
  go_wp2_with fail
  have H2 := (H1.out.setBlk 2 (.string S)).swap
  have H3 := ((((H2.setBlk 0 (.int .i64 4)).setBlk 1 (.int .i64 0)).setBlk 2 (.string S)).setBlk 3 (.slice none 0 0)).setBlk 4 (.slice none 0 0)
  simp only [List.setIfInBounds_toArray, List.set_cons_zero, List.set_cons_succ] at H3
  refine bodyPost_ret (results_agg_tmp rfl _ _ N 25 #[.int .i64 4, .int .i64 0, .string S, .slice none 0 0, .slice none 0 0] _ rfl H3.blk Tryz.underlying25 rfl (by kernel_rfl)) rfl ?_
  exact ⟨none, 0, none, 0, rfl, St.nilOl (l := [_]) (St.nilOl (l := []) H3.none_of svl 9) ivl 2⟩
set_option maxRecDepth 100000 in
set_option maxHeartbeats 1000000 in
theorem read_texts (l : Bs) (w : World) (hl : l.length ≤ 1073741824) : Calls Tryz.prog 22 #[.int .i64 8, .string (mkS l)] w (NewP (readV 8 l) w) := by
  have HC := Lib.hid fun w => readTexts_any l w hl
  have HB := Lib.hid (boxes2 w 8)
  have hs : readV 8 l = (⟨8, 0, mkS [], [], (readV 8 l).1.ts⟩, (readV 8 l).2) := by
    cases h : readT l with
    | none => rw [readV_texts_no h]
    | some L => rw [readV_texts h]
  have HC2 : Hid (∀ w, Calls Tryz.prog 36 #[.string (mkS l)] w fun e w' => ∃ A c, e = .returned (.tuple #[.slice A (readV 8 l).1.ts.length c, .int .i64 (readV 8 l).2]) ∧ St Zf [OlA svl 9 (.slice A (readV 8 l).1.ts.length c) (readV 8 l).1.ts] w w') := HC
  rw [hs]
  generalize (readV 8 l).1.ts = X at HC2 ⊢
  generalize (readV 8 l).2 = E at HC2 ⊢
  generalize mkS l = S at HC2 ⊢
  clear hl hs HC
  obtain ⟨N, hN⟩ : ∃ N, N = w.heap.size := ⟨_, rfl⟩
  go_enter Tryz.func22, Tryz.ntmps22
  go_wp2_with fail
  rw [← hN] at HB ⊢
  refine (HC2.out _).mono ?_
  rintro e w1 ⟨A, c, rfl, h1⟩
  have H1 := Lib.hid (St.addStL HB.out h1).swap.bring2
  obtain ⟨⟨d0, d1, d2, d3, d4⟩, g0, l1⟩ := blk_facts H1.out
  obtain ⟨⟨c0, c1, c2, c3, c4⟩, f0, l0⟩ := blk_facts H1.out.swap
  have F0 := f0 4
  have G0 := g0 0
  have G1 := g0 1
  have G2 := g0 2
  have G3 := g0 3
  have G4 := g0 4
  clear h1 hN HB
  go_wp2_with fail
  have H2 := (H1.out.swap.setBlk 4 (.slice A X.length c)).swap
  have H3 := ((((H2.setBlk 0 (.int .i64 8)).setBlk 1 (.int .i64 0)).setBlk 2 (.string ⟨#[]⟩)).setBlk 3 (.slice none 0 0)).setBlk 4 (.slice A X.length c)
  simp only [List.setIfInBounds_toArray, List.set_cons_zero, List.set_cons_succ] at H3
  refine bodyPost_ret (results_agg_tmp rfl _ _ N 25 #[.int .i64 8, .int .i64 0, .string ⟨#[]⟩, .slice none 0 0, .slice A X.length c] _ rfl H3.blk Tryz.underlying25 rfl (by kernel_rfl)) rfl ?_
  exact ⟨none, 0, A, c, rfl, St.nilOl (l := [_]) H3.drop.drop ivl 2⟩
set_option maxRecDepth 100000 in
set_option maxHeartbeats 2000000 in
theorem read_nums (k : Int) (hk : 4 < k) (hk2 : k < 8) (l : Bs) (w : World) (hW : CeW w) (hl : l.length ≤ 1073741824) : Calls Tryz.prog 22 #[.int .i64 k, .string (mkS l)] w (NewP (readV k l) w) := by
  have HB := Lib.hid (boxes2 w k)
  have hs := readV_nums hk hk2 l
  have HC2 : Hid (∀ w1, Below w.heap.size w w1 → Calls Tryz.prog 37 #[.int .i64 (k - 4), .string (mkS l)] w1 fun e w' => ∃ A c, e = .returned (.tuple #[.slice A (readN (numR (k - 4)) l).1.length c, .int .i64 (readN (numR (k - 4)) l).2]) ∧ St Zf [OlA ivl 2 (.slice A (readN (numR (k - 4)) l).1.length c) (readN (numR (k - 4)) l).1] w1 w') := Lib.hid fun w1 hb => readNumbers_any (k - 4) l w1 (hW.below hb (Nat.le_refl _)) hl
  rw [hs]
  generalize (readN (numR (k - 4)) l).1 = X at HC2 ⊢
  generalize (readN (numR (k - 4)) l).2 = E at HC2 ⊢
  generalize mkS l = S at HC2 ⊢
  have HBB := Lib.hid HB.out.bel
  clear hl hs hW
  obtain ⟨N, hN⟩ : ∃ N, N = w.heap.size := ⟨_, rfl⟩
  rcases (show k = 5 ∨ k = 6 ∨ k = 7 by omega) with rfl | rfl | rfl
  all_goals
    clear hk hk2
    go_enter Tryz.func22, Tryz.ntmps22
    go_wp2_with fail
    have HC3 := Lib.hid (HC2.out _ HBB.out)
    rw [← hN] at HB ⊢
    refine HC3.out.mono ?_
    rintro e w1 ⟨A, c, rfl, h1⟩
    have H1 := Lib.hid (St.addStL HB.out h1).swap.bring2
    obtain ⟨⟨d0, d1, d2, d3, d4⟩, g0, l1⟩ := blk_facts H1.out
    obtain ⟨⟨c0, c1, c2, c3, c4⟩, f0, l0⟩ := blk_facts H1.out.swap
    have F0 := f0 3
    have G0 := g0 0
    have G1 := g0 1
    have G2 := g0 2
    have G3 := g0 3
    have G4 := g0 4
    clear h1 hN HB HC2 HC3 HBB
    go_wp2_with fail
  · have H2 := (H1.out.swap.setBlk 3 (.slice A X.length c)).swap
    have H3 := ((((H2.setBlk 0 (.int .i64 5)).setBlk 1 (.int .i64 0)).setBlk 2 (.string ⟨#[]⟩)).setBlk 3 (.slice A X.length c)).setBlk 4 (.slice none 0 0)
    simp only [List.setIfInBounds_toArray, List.set_cons_zero, List.set_cons_succ] at H3
    refine bodyPost_ret (results_agg_tmp rfl _ _ N 25 #[.int .i64 5, .int .i64 0, .string ⟨#[]⟩, .slice A X.length c, .slice none 0 0] _ rfl H3.blk Tryz.underlying25 rfl (by kernel_rfl)) rfl ?_
    exact ⟨A, c, none, 0, rfl, (St.nilOl (l := [_]) H3.drop.drop svl 9).swap⟩
  · have H2 := (H1.out.swap.setBlk 3 (.slice A X.length c)).swap
    have H3 := ((((H2.setBlk 0 (.int .i64 6)).setBlk 1 (.int .i64 0)).setBlk 2 (.string ⟨#[]⟩)).setBlk 3 (.slice A X.length c)).setBlk 4 (.slice none 0 0)
    simp only [List.setIfInBounds_toArray, List.set_cons_zero, List.set_cons_succ] at H3
    refine bodyPost_ret (results_agg_tmp rfl _ _ N 25 #[.int .i64 6, .int .i64 0, .string ⟨#[]⟩, .slice A X.length c, .slice none 0 0] _ rfl H3.blk Tryz.underlying25 rfl (by kernel_rfl)) rfl ?_
    exact ⟨A, c, none, 0, rfl, (St.nilOl (l := [_]) H3.drop.drop svl 9).swap⟩
  · have H2 := (H1.out.swap.setBlk 3 (.slice A X.length c)).swap
    have H3 := ((((H2.setBlk 0 (.int .i64 7)).setBlk 1 (.int .i64 0)).setBlk 2 (.string ⟨#[]⟩)).setBlk 3 (.slice A X.length c)).setBlk 4 (.slice none 0 0)
    simp only [List.setIfInBounds_toArray, List.set_cons_zero, List.set_cons_succ] at H3
    refine bodyPost_ret (results_agg_tmp rfl _ _ N 25 #[.int .i64 7, .int .i64 0, .string ⟨#[]⟩, .slice A X.length c, .slice none 0 0] _ rfl H3.blk Tryz.underlying25 rfl (by kernel_rfl)) rfl ?_
    exact ⟨A, c, none, 0, rfl, (St.nilOl (l := [_]) H3.drop.drop svl 9).swap⟩
set_option maxRecDepth 100000 in
set_option maxHeartbeats 2000000 in
theorem read_num (k : Int) (hk : 1 ≤ k) (hk2 : k < 4) (l : Bs) (w : World) (hW : CeW w) (hl : l.length ≤ 1073741824) : Calls Tryz.prog 22 #[.int .i64 k, .string (mkS l)] w (NewP (readV k l) w) := by
  have HB := Lib.hid (boxes2 w k)
  have hs := readV_num hk2 l
  have HC2 : Hid (∀ w1, Below w.heap.size w w1 → Calls Tryz.prog 38 #[.int .i64 k, .string (mkS l)] w1 fun e w' => e = .returned (.tuple #[.int .i64 (numR k l).1, .int .i64 (numR k l).2]) ∧ Below w1.heap.size w1 w') := Lib.hid fun w1 hb => readNumber_any k (mkS l) w1 (hW.below hb (Nat.le_refl _)).tabs (by rw [mkS_size]; omega)
  rw [hs]
  generalize (numR k l).1 = X at HC2 ⊢
  generalize (numR k l).2 = E at HC2 ⊢
  generalize mkS l = S at HC2 ⊢
  have HBB := Lib.hid HB.out.bel
  clear hl hs hW
  obtain ⟨N, hN⟩ : ∃ N, N = w.heap.size := ⟨_, rfl⟩
  rcases (show k = 1 ∨ k = 2 ∨ k = 3 by omega) with rfl | rfl | rfl
  all_goals
    clear hk hk2
    go_enter Tryz.func22, Tryz.ntmps22
    go_wp2_with fail
    have HC3 := Lib.hid (HC2.out _ HBB.out)
    rw [← hN] at HB ⊢
    refine HC3.out.mono ?_
    rintro e w1 ⟨rfl, hb1⟩
    have H1 := Lib.hid (HB.out.below hb1).swap
    obtain ⟨⟨d0, d1, d2, d3, d4⟩, g0, l1⟩ := blk_facts H1.out
    obtain ⟨⟨c0, c1, c2, c3, c4⟩, f0, l0⟩ := blk_facts H1.out.swap
    have F0 := f0 1
    have G0 := g0 0
    have G1 := g0 1
    have G2 := g0 2
    have G3 := g0 3
    have G4 := g0 4
    clear hb1 hN HB HC2 HC3 HBB
    go_wp2_with fail
  · have H3 := ((((((H1.out.swap.setBlk 1 (.int .i64 X)).swap).setBlk 0 (.int .i64 1)).setBlk 1 (.int .i64 X)).setBlk 2 (.string ⟨#[]⟩)).setBlk 3 (.slice none 0 0)).setBlk 4 (.slice none 0 0)
    simp only [List.setIfInBounds_toArray, List.set_cons_zero, List.set_cons_succ] at H3
    refine bodyPost_ret (results_agg_tmp rfl _ _ N 25 _ _ rfl H3.blk Tryz.underlying25 rfl (by kernel_rfl)) rfl ?_
    exact ⟨none, 0, none, 0, rfl, St.nilOl (l := [_]) (St.nilOl (l := []) H3.none_of svl 9) ivl 2⟩
  · have H3 := ((((((H1.out.swap.setBlk 1 (.int .i64 X)).swap).setBlk 0 (.int .i64 2)).setBlk 1 (.int .i64 X)).setBlk 2 (.string ⟨#[]⟩)).setBlk 3 (.slice none 0 0)).setBlk 4 (.slice none 0 0)
    simp only [List.setIfInBounds_toArray, List.set_cons_zero, List.set_cons_succ] at H3
    refine bodyPost_ret (results_agg_tmp rfl _ _ N 25 _ _ rfl H3.blk Tryz.underlying25 rfl (by kernel_rfl)) rfl ?_
    exact ⟨none, 0, none, 0, rfl, St.nilOl (l := [_]) (St.nilOl (l := []) H3.none_of svl 9) ivl 2⟩
  · have H3 := ((((((H1.out.swap.setBlk 1 (.int .i64 X)).swap).setBlk 0 (.int .i64 3)).setBlk 1 (.int .i64 X)).setBlk 2 (.string ⟨#[]⟩)).setBlk 3 (.slice none 0 0)).setBlk 4 (.slice none 0 0)
    simp only [List.setIfInBounds_toArray, List.set_cons_zero, List.set_cons_succ] at H3
    refine bodyPost_ret (results_agg_tmp rfl _ _ N 25 _ _ rfl H3.blk Tryz.underlying25 rfl (by kernel_rfl)) rfl ?_
    exact ⟨none, 0, none, 0, rfl, St.nilOl (l := [_]) (St.nilOl (l := []) H3.none_of svl 9) ivl 2⟩
theorem read_any {k : Int} (hk : 1 ≤ k ∧ k ≤ 8) (l : Bs) (w : World) (hW : CeW w) (hl : l.length ≤ 1073741824) : Calls Tryz.prog 22 #[.int .i64 k, .string (mkS l)] w (NewP (readV k l) w) := by
  rcases (show k < 4 ∨ k = 4 ∨ (4 < k ∧ k < 8) ∨ k = 8 by omega) with h | rfl | ⟨h, h2⟩ | rfl
  · exact read_num k hk.1 h l w hW hl
  · exact read_text l w hl
  · exact read_nums k h h2 l w hW hl
  · exact read_texts l w hl
end Go.Proofs.YthfoffcfbfmajaaGreatDoor
