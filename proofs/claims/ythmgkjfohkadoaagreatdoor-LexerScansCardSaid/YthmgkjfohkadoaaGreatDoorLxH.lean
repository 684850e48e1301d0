/- lexer: the scanner: quoted. -/
import Derived.Test.YthmgkjfohkadoaaGreatDoorLxG
import Derived.Test.YthmgkjfohkadoaaGreatDoorLxJoin
import Derived.IntWalk
import Derived.Deep.RegionHeld3
namespace Go.Proofs.YthmgkjfohkadoaaGreatDoor
open Go.RowKit
set_option linter.unusedVariables false

/-- a text's token out of what is read -/
def txtX (p : Nat) : Except (Nat × Int) (Bs × Nat) → Except (Nat × Int) (Tk × Nat)
  | .error e => .error e
  | .ok x => .ok (⟨4, x.1, 0, p⟩, x.2 - p)
theorem txt_quo {p0 i : Nat} {acc r : Bs} : txtG p0 i acc (39 :: r) = .ok (acc, i + 1) := by rw [txtG, if_pos rfl]
theorem txt_odd {p0 i : Nat} {acc r : Bs} {x : UInt8} (h1 : x ≠ 39) (h2 : lxP x = false) : txtG p0 i acc (x :: r) = .error (i, 240) := by rw [txtG, if_neg h1, if_pos h2]
theorem txt_plain {p0 i : Nat} {acc r : Bs} {x : UInt8} (h1 : x ≠ 39) (h2 : lxP x = true) (h3 : x ≠ 92) : txtG p0 i acc (x :: r) = txtG p0 (i + 1) (acc ++ [x]) r := by
  rw [txtG, if_neg h1, if_neg (by rw [h2]; decide), if_neg h3]
theorem txt_noesc {p0 i : Nat} {acc r : Bs} (h : (escR r).2 = 0) : txtG p0 i acc (92 :: r) = .error (i, 242) := by
  rw [txtG, if_neg (by decide), if_neg (by decide), if_pos rfl, if_pos h]
theorem txt_esc {p0 i : Nat} {acc r : Bs} (h : (escR r).2 ≠ 0) : txtG p0 i acc (92 :: r) = txtG p0 (i + 1 + (escR r).2) (acc ++ [(escR r).1]) (r.drop (escR r).2) := by
  rw [txtG, if_neg (by decide), if_neg (by decide), if_pos rfl, if_neg h]
theorem txt_open {p0 i : Nat} {acc : Bs} : txtG p0 i acc [] = .error (p0, 241) := by rw [txtG]
theorem St.Lx1 {S : Fp} {lst : List Ass} [Stable (Sep lst)] {w0 w : World} {g p N : Nat} {s : ByteArray} (h : St S (ScA g s p :: lst) w0 w) (hN : w.heap.size = N) : St S (BlkA N 30 tkZ :: ScA g s p :: lst) w0 (w.alloc (.cells tkZ 30)) := by
  subst hN
  exact h.newBlk 30 tkZ
def worldH {S : Fp} {l : List Ass} {w0 W : World} (_ : Hid (St S l w0 W)) : World := W
theorem Blk.sets4 {w : World} {g : Nat} {t : TypeId} {a b c d : Value} (h : Blk w g t #[a, b, c, d]) (a' b' c' d' : Value) : Blk ((((w.setCell ⟨g, 0, none⟩ a').setCell ⟨g, 1, none⟩ b').setCell ⟨g, 2, none⟩ c').setCell ⟨g, 3, none⟩ d') g t #[a', b', c', d'] :=
  (((h.set_ 0 a').set_ 1 b').set_ 2 c').set_ 3 d'
theorem BString_kept (B b : Nat) (l : Bs) (w : World) (h : Bd B b l w) :
    Calls Tryz.prog 28 #[.pointer (some ⟨b, 0, none⟩)] w fun e w' => e = .returned (.string (mkS l)) ∧ Below B w w' ∧ Lib.OthersKept 5 (some b) w w' := by
  have hB : B ≤ w.heap.size := Nat.le_trans h.2 (Nat.le_of_lt h.lt)
  refine (Tryz.Builder_String_any_k B b l w h.1 hB).mono ?_
  rintro e w' ⟨rfl, -, h2, h3⟩
  exact ⟨rfl, h2, h3⟩
set_option maxRecDepth 100000 in
set_option maxHeartbeats 2000000 in
theorem quoted_any {S : Fp} {lst : List Ass} [Stable (Sep lst)] {w0 w : World} (g p : Nat) (s : ByteArray) (h : St S (ScA g s p :: lst) w0 w) (hp : p < s.size) (hs : s.size ≤ 1073741824) (hK : LxK g w) :
    Calls Tryz.prog 22 #[.pointer (some ⟨g, 0, none⟩)] w (TokW S lst w0 g s p (txtX p (txtG p (p + 1) [] ((lS s).drop (p + 1))))) := by
  obtain ⟨R, hR⟩ : ∃ R, R = txtG p (p + 1) [] ((lS s).drop (p + 1)) := ⟨_, rfl⟩
  rw [← hR]
  have HLN : Hid ((lS s).length = s.size) := Lib.hid (lS_len s)
  have HX : Hid (∀ k (h' : k < s.size), ∃ x, s[k]'h' = x ∧ (lS s).drop k = x :: (lS s).drop (k + 1)) := Lib.hid (sc_at s)
  have HEX : Hid (∀ k, s.extract k s.size = mkS ((lS s).drop k)) := Lib.hid (sc_drop s)
  obtain ⟨N, hN⟩ : ∃ N, N = w.heap.size := ⟨_, rfl⟩
  have HNE := Lib.hid hN
  obtain ⟨W1, hW1⟩ : ∃ W1, W1 = w.alloc (.cells tkZ 30) := ⟨_, rfl⟩
  have z1 : W1.heap.size = N + 1 := by rw [hW1, World.size_alloc, hN]
  have h1 : St S (BlkA N 30 tkZ :: ScA g s p :: lst) w0 W1 := by rw [hW1]; exact h.Lx1 hN.symm
  have k1 : LxK g W1 := by rw [hW1]; exact hK.below ((Below.refl _ _).alloc (Nat.le_refl _) _)
  have hbd := Bd.fresh W1 (N + 1) z1
  obtain ⟨W2, hW2⟩ : ∃ W2, W2 = W1.alloc (.cells #[.pointer none, .slice none 0 0] 58) := ⟨_, rfl⟩
  rw [← hW2] at hbd
  have b12 : Below (N + 1) W1 W2 := by rw [hW2]; exact (Below.refl _ _).alloc (by omega) _
  have HWS : Hid (W2 = (w.alloc (.cells tkZ 30)).alloc (.cells #[.pointer none, .slice none 0 0] 58)) := Lib.hid (by rw [hW2, hW1])
  have HST : Hid (∀ wr, Below (N + 1) W1 wr → St S (BlkA N 30 tkZ :: ScA g s p :: lst) w0 wr ∧ LxK g wr) := Lib.hid fun wr hb => ⟨h1.below (z1 ▸ hb), k1.below (z1 ▸ hb)⟩
  have HSM : Hid (∀ wr M cs, Below (N + 1) W1 wr → N + 1 ≤ M → Blk wr M 30 cs → St S (BlkA M 30 cs :: BlkA N 30 tkZ :: ScA g s p :: lst) w0 wr) := Lib.hid fun wr M cs hb hM hbk => h1.add (F := fun k => k = M) (z1 ▸ hb) ⟨hbk, rfl⟩ fun k hk => by subst hk; omega
  have HGN : Hid (g < N) := Lib.hid (by rw [hN]; exact (sc_cells h).2.2.2)
  have HBD := Lib.hid hbd
  have HB12 := Lib.hid b12
  have HRE := Lib.hid hR
  obtain ⟨c0, c1, f1, g0⟩ := sc_cells h
  have HBS : Hid (∀ {w' : World}, Below (N + 1) W1 w' → N + 1 ≤ w'.heap.size) := Lib.hid fun hb => by have := hb.size; omega
  have HHS := Lib.hid hs
  clear h hK hN hW1 z1 h1 k1 hbd hW2 b12 hR
  go_enter Tryz.func22, Tryz.ntmps22
  go_wp2
  rw [← HWS.out, ← HNE.out]
  clear c0 c1 f1 g0 HWS HNE
  go_loopw [5] (fun i wr => ∃ (k : Nat) (acc : Bs), p + 1 ≤ k ∧ k ≤ s.size ∧ i = .int .i64 k ∧ acc.length ≤ k ∧ Hid (R = txtG p k acc ((lS s).drop k)) ∧ Hid (Bd (N + 1) (N + 1) acc wr) ∧ Hid (Below (N + 1) W1 wr)) (fun i _ => s.size - (intOf i).toNat)
  case atStart => exact ⟨p + 1, [], Nat.le_refl _, by omega, by go_num, by simp, HRE, HBD, HB12⟩
  case round =>
    obtain ⟨k, acc, hk1, hk2, rfl, hac, HR, HD, HB⟩ := hrel
    clear HRE HBD HB12
    obtain ⟨c0, c1, f1, g0⟩ := sc_cells (HST.out wr HB.out).1.swap
    have hkb : k ≤ 1073741824 := by omega
    by_cases hlt : k < s.size
    · obtain ⟨x, hx, hdr⟩ := HX.out k hlt
      rw [hdr] at HR
      clear hdr
      by_cases h39 : x = 39
      · subst h39
        have HRR : Hid (R = .ok (acc, k + 1)) := Lib.hid (HR.out.trans txt_quo)
        have HS := Lib.hid fun wx h => BString_kept (N + 1) (N + 1) acc wx h
        have hgN := HGN.out
        have hwN := HBS.out HB.out
        have hwN2 := HD.out.lt
        clear HR HX HEX
        go_wp2_with fail
        refine wp_region_held_drew (S := (fun w' => w'.cell? ⟨g, 1, none⟩ = some (.int .i64 (p : Int)))) (by kernel_rfl) (by (try dsimp only); go_keep) (fun hHeld => ?_)
        refine wpAnyH_take (i := 1) (v := ?_) rfl (by kernel_rfl) (by kernel_rfl) (by kernel_rfl) (fun _ _ _ h => h) (Or.inl ⟨by rfl, ?_⟩) (by assumption) ?_
        rotate_left
        · (intro w hSw; (try dsimp only at hSw); go_simp; try with_reducible rfl)
        try simp only [Act.put, List.getElem_toArray, List.getElem_cons_zero, List.getElem_cons_succ, List.setIfInBounds_toArray, List.set_cons_zero, List.set_cons_succ]
        refine wpAnyH_take (i := 2) (v := ?_) rfl (by kernel_rfl) (by kernel_rfl) (by kernel_rfl) (fun _ _ _ h => h) (Or.inl ⟨by rfl, ?_⟩) (by assumption) ?_
        rotate_left
        · (intro w hSw; (try dsimp only at hSw); go_simp; try with_reducible rfl)
        try simp only [Act.put, List.getElem_toArray, List.getElem_cons_zero, List.getElem_cons_succ, List.setIfInBounds_toArray, List.set_cons_zero, List.set_cons_succ]
        refine wpAnyH_take (i := 3) (v := ?_) rfl (by kernel_rfl) (by kernel_rfl) (by kernel_rfl) (fun _ _ _ h => h) (Or.inl ⟨by rfl, ?_⟩) (by assumption) ?_
        rotate_left
        · (intro w hSw; (try dsimp only at hSw); go_simp; try with_reducible rfl)
        try simp only [Act.put, List.getElem_toArray, List.getElem_cons_zero, List.getElem_cons_succ, List.setIfInBounds_toArray, List.set_cons_zero, List.set_cons_succ]
        refine wpAnyH_take (i := 4) (v := ?_) rfl (by kernel_rfl) (by kernel_rfl) (by kernel_rfl) (fun _ _ _ h => h) (Or.inl ⟨by rfl, ?_⟩) (by assumption) ?_
        rotate_left
        · (intro w hSw; (try dsimp only at hSw); go_simp; try with_reducible rfl)
        try simp only [Act.put, List.getElem_toArray, List.getElem_cons_zero, List.getElem_cons_succ, List.setIfInBounds_toArray, List.set_cons_zero, List.set_cons_succ]
        refine wpAnyH_ready (rs := [0, 6]) (by kernel_rfl) (by simp) ?_
        refine AllReadyH.cons rfl (fun K hK => ?_) ?_
        · go_simp
          go_at_call 28
          refine (HS.out _ (HD.out.below ((Below.refl _ _).drew))).mono ?_
          rintro e w3 ⟨rfl, hb3, ho3⟩
          have HB3 := Lib.hid ((HB.out.trans ((Below.refl (N + 1) wr).drew)).trans hb3)
          have hc3 := (sc_cells (HST.out w3 HB3.out).1.swap).2.1
          clear hb3 ho3
          refine hK.out _ _ (by (try dsimp only); go_keep) (fun hHeld => ?_)
          clear hK K
          try simp only [Act.put, List.getElem_toArray, List.getElem_cons_zero, List.getElem_cons_succ, List.setIfInBounds_toArray, List.set_cons_zero, List.set_cons_succ]
          refine wpAnyH_take (i := 5) (v := ?_) rfl (by kernel_rfl) (by kernel_rfl) (by kernel_rfl) (fun _ _ _ h => h) (Or.inl ⟨by rfl, ?_⟩) (by assumption) ?_
          rotate_left
          · (intro w hSw; (try dsimp only at hSw); go_simp; try with_reducible rfl)
          try simp only [Act.put, List.getElem_toArray, List.getElem_cons_zero, List.getElem_cons_succ, List.setIfInBounds_toArray, List.set_cons_zero, List.set_cons_succ]
          refine wpAnyH_ready (rs := [6]) (by kernel_rfl) (by simp) ?_
          refine AllReadyH.cons rfl (fun K hK => ?_) AllReadyH.nil
          go_simp
          refine hK.out _ _ (by (try dsimp only); go_keep) (fun hHeld => ?_)
          clear hK K
          try simp only [Act.put, List.getElem_toArray, List.getElem_cons_zero, List.getElem_cons_succ, List.setIfInBounds_toArray, List.set_cons_zero, List.set_cons_succ]
          refine wpAnyH_ready (rs := [7]) (by kernel_rfl) (by simp) ?_
          refine AllReadyH.cons rfl (fun K hK => ?_) AllReadyH.nil
          go_simp
          refine hK.out _ _ (by (try dsimp only); go_keep) (fun hHeld => ?_)
          clear hK K
          try simp only [Act.put, List.getElem_toArray, List.getElem_cons_zero, List.getElem_cons_succ, List.setIfInBounds_toArray, List.set_cons_zero, List.set_cons_succ]
          refine wpAnyH_done (by kernel_rfl) ?_ _
          have hw3 := HBS.out HB3.out
          have hbb := HB3.out.trans ((Below.refl (N + 1) w3).alloc hw3 (.cells #[.int .i64 4, .string (mkS acc), .int .i64 0, .int .i64 (p : Int)] 30))
          have H := Lib.hid (HSM.out _ w3.heap.size _ hbb hw3 (Blk.new w3 30 #[.int .i64 4, .string (mkS acc), .int .i64 0, .int .i64 (p : Int)]))
          have KH := Lib.hid (HST.out _ hbb).2
          have HM : Hid (N < w3.heap.size) := Lib.hid (by omega)
          clear hbb
          obtain ⟨wq, hwq⟩ : ∃ x, x = worldH H := ⟨_, rfl⟩
          dsimp only [worldH] at hwq
          rw [← hwq] at H KH ⊢
          clear hwq
          obtain ⟨M, hM⟩ : ∃ M, M = w3.heap.size := ⟨_, rfl⟩
          rw [← hM] at H HM ⊢
          clear hM hw3
          obtain ⟨⟨a0, a1, a2, a3⟩, -, l0⟩ := blk4 H.out
          obtain ⟨⟨d0, d1, d2, d3⟩, f0, l1⟩ := blk4 H.out.swap
          have F0 := f0 0
          have F1 := f0 1
          have F2 := f0 2
          have F3 := f0 3
          obtain ⟨c0', c1', f1', g0'⟩ := sc_cells H.out.bring2
          have hMN := HM.out
          have m1 : M ≠ g := by omega
          have m2 : g ≠ M := by omega
          have m3 : M ≠ N := by omega
          have m4 : N ≠ M := by omega
          have m5 : g ≠ N := by omega
          have m6 : N ≠ g := by omega
          have HAC : Hid (mkS acc = mkS acc) := Lib.hid rfl
          clear f0 hc3 hHeld c0 c1 f1 g0
          go_wp2_with fail
          have H2 := (H.out.bring2.setBlk 1 (.int .i64 ((k : Int) + 1))).bring2
          have H3 := (((H2.setBlk 0 (.int .i64 4)).setBlk 1 (.string (mkS acc))).setBlk 2 (.int .i64 0)).setBlk 3 (.int .i64 (p : Int))
          simp only [List.setIfInBounds_toArray, List.set_cons_zero, List.set_cons_succ] at H3
          refine bodyPost_ret (results_aggL rfl _ _ N 30 _ _ rfl H3.blk Tryz.underlying30 rfl (by kernel_rfl)) rfl ?_
          rw [HRR.out]
          refine ⟨rfl, ?_, ((((KH.out.set 1 _).setHi (by omega) 0 _).setHi (by omega) 1 _).setHi (by omega) 2 _).setHi (by omega) 3 _⟩
          show St S (ScA g s (p + (k + 1 - p)) :: lst) w0 _
          rw [show p + (k + 1 - p) = k + 1 by omega]
          exact H3.drop.swap.drop
        refine AllReadyH.cons rfl (fun K hK => ?_) AllReadyH.nil
        go_simp
        refine hK.out _ _ (by (try dsimp only); go_keep) (fun hHeld => ?_)
        clear hK K
        try simp only [Act.put, List.getElem_toArray, List.getElem_cons_zero, List.getElem_cons_succ, List.setIfInBounds_toArray, List.set_cons_zero, List.set_cons_succ]
        refine wpAnyH_ready (rs := [0]) (by kernel_rfl) (by simp) ?_
        refine AllReadyH.cons rfl (fun K hK => ?_) AllReadyH.nil
        go_simp
        go_at_call 28
        refine (HS.out _ ((HD.out.below ((Below.refl wr.heap.size wr).drew)).below ((Below.refl _ _).alloc (Nat.le_refl _) _))).mono ?_
        rintro e w3 ⟨rfl, hb3, ho3⟩
        have HB3 := Lib.hid ((HB.out.trans (((Below.refl (N + 1) wr).drew).alloc (by show N + 1 ≤ wr.drew.heap.size; exact hwN) _)).trans hb3)
        have hbk3 : Blk w3 wr.heap.size 30 tkZ := ho3 wr.heap.size _ (Blk.new wr.drew 30 tkZ) (by intro e; injection e with e; omega) (by intro c fz e; injection e with _ e _; exact absurd e (by decide))
        have HBK := Lib.hid hbk3
        have d0 : w3.cell? ⟨wr.heap.size, 0, none⟩ = some (.int .i64 0) := by rw [hbk3.cell 0]; rfl
        have d1 : w3.cell? ⟨wr.heap.size, 1, none⟩ = some (.string ⟨#[]⟩) := by rw [hbk3.cell 1]; rfl
        have d2 : w3.cell? ⟨wr.heap.size, 2, none⟩ = some (.int .i64 0) := by rw [hbk3.cell 2]; rfl
        have d3 : w3.cell? ⟨wr.heap.size, 3, none⟩ = some (.int .i64 0) := by rw [hbk3.cell 3]; rfl
        have F0 := hbk3.frozen 0
        have F1 := hbk3.frozen 1
        have F2 := hbk3.frozen 2
        have F3 := hbk3.frozen 3
        have ng1 : wr.heap.size ≠ g := by omega
        have ng2 : g ≠ wr.heap.size := by omega
        clear hbk3
        have hc3 := (sc_cells (HST.out w3 HB3.out).1.swap).2.1
        clear hb3 ho3
        refine hK.out _ _ (by (try dsimp only); go_keep) (fun hHeld => ?_)
        clear hK K
        try simp only [Act.put, List.getElem_toArray, List.getElem_cons_zero, List.getElem_cons_succ, List.setIfInBounds_toArray, List.set_cons_zero, List.set_cons_succ]
        refine wpAnyH_take (i := 5) (v := ?_) rfl (by kernel_rfl) (by kernel_rfl) (by kernel_rfl) (fun _ _ _ h => h) (Or.inl ⟨by rfl, ?_⟩) (by assumption) ?_
        rotate_left
        · (intro w hSw; (try dsimp only at hSw); go_simp; try with_reducible rfl)
        try simp only [Act.put, List.getElem_toArray, List.getElem_cons_zero, List.getElem_cons_succ, List.setIfInBounds_toArray, List.set_cons_zero, List.set_cons_succ]
        refine wpAnyH_ready (rs := [7]) (by kernel_rfl) (by simp) ?_
        refine AllReadyH.cons rfl (fun K hK => ?_) AllReadyH.nil
        go_simp
        refine hK.out _ _ (by (try dsimp only); go_keep) (fun hHeld => ?_)
        clear hK K
        try simp only [Act.put, List.getElem_toArray, List.getElem_cons_zero, List.getElem_cons_succ, List.setIfInBounds_toArray, List.set_cons_zero, List.set_cons_succ]
        refine wpAnyH_done (by kernel_rfl) ?_ _
        have hMN : N + 1 ≤ wr.heap.size := hwN
        have hbb := HB3.out.trans (((((Below.refl (N + 1) w3).setCell (p := ⟨wr.heap.size, 0, none⟩) hMN (.int .i64 4)).setCell (p := ⟨wr.heap.size, 1, none⟩) hMN (.string (mkS acc))).setCell (p := ⟨wr.heap.size, 2, none⟩) hMN (.int .i64 0)).setCell (p := ⟨wr.heap.size, 3, none⟩) hMN (.int .i64 (p : Int)))
        have H := Lib.hid (HSM.out _ wr.heap.size _ hbb hMN (HBK.out.sets4 (.int .i64 4) (.string (mkS acc)) (.int .i64 0) (.int .i64 (p : Int))))
        have KH := Lib.hid (HST.out _ hbb).2
        have HM : Hid (N < wr.heap.size) := Lib.hid (by omega)
        clear hbb HBK d0 d1 d2 d3 F0 F1 F2 F3 ng1 ng2 hMN
        obtain ⟨wq, hwq⟩ : ∃ x, x = worldH H := ⟨_, rfl⟩
        dsimp only [worldH] at hwq
        rw [← hwq] at H KH ⊢
        clear hwq
        obtain ⟨M, hM⟩ : ∃ M, M = wr.heap.size := ⟨_, rfl⟩
        rw [← hM] at H HM ⊢
        clear hM
        obtain ⟨⟨a0, a1, a2, a3⟩, -, l0⟩ := blk4 H.out
        obtain ⟨⟨d0, d1, d2, d3⟩, f0, l1⟩ := blk4 H.out.swap
        have F0 := f0 0
        have F1 := f0 1
        have F2 := f0 2
        have F3 := f0 3
        obtain ⟨c0', c1', f1', g0'⟩ := sc_cells H.out.bring2
        have hMN := HM.out
        have m1 : M ≠ g := by omega
        have m2 : g ≠ M := by omega
        have m3 : M ≠ N := by omega
        have m4 : N ≠ M := by omega
        have m5 : g ≠ N := by omega
        have m6 : N ≠ g := by omega
        have HAC : Hid (mkS acc = mkS acc) := Lib.hid rfl
        clear f0 hc3 hHeld c0 c1 f1 g0
        go_wp2_with fail
        have H2 := (H.out.bring2.setBlk 1 (.int .i64 ((k : Int) + 1))).bring2
        have H3 := (((H2.setBlk 0 (.int .i64 4)).setBlk 1 (.string (mkS acc))).setBlk 2 (.int .i64 0)).setBlk 3 (.int .i64 (p : Int))
        simp only [List.setIfInBounds_toArray, List.set_cons_zero, List.set_cons_succ] at H3
        refine bodyPost_ret (results_aggL rfl _ _ N 30 _ _ rfl H3.blk Tryz.underlying30 rfl (by kernel_rfl)) rfl ?_
        rw [HRR.out]
        refine ⟨rfl, ?_, ((((KH.out.set 1 _).setHi (by omega) 0 _).setHi (by omega) 1 _).setHi (by omega) 2 _).setHi (by omega) 3 _⟩
        show St S (ScA g s (p + (k + 1 - p)) :: lst) w0 _
        rw [show p + (k + 1 - p) = k + 1 by omega]
        exact H3.drop.swap.drop
      · have b39 : ((x.toNat : Int) == 39) = false := by
          rw [beq_eq_false_iff_ne]
          intro e
          exact h39 (UInt8.toNat_inj.1 (by show x.toNat = 39; omega))
        by_cases h92 : x = 92
        · have b92 : ((x.toNat : Int) == 92) = true := by rw [h92]; decide
          subst h92
          have HUN : Hid (∀ w, Calls Tryz.prog 45 #[.string (s.extract (k + 1) s.size)] w (EscW ((lS s).drop (k + 1)) w)) := Lib.hid fun w => by
            rw [HEX.out]
            exact unescape_any _ w (by rw [List.length_drop, HLN.out]; have := HHS.out; omega)
          unfold EscW at HUN
          have i1 : (0 : Int) ≤ (k : Int) + 1 := by omega
          have i2 : (k : Int) + 1 ≤ (s.size : Int) := by omega
          by_cases hes : (escR ((lS s).drop (k + 1))).2 = 0
          · have HRR : Hid (R = .error (k, 242)) := Lib.hid (HR.out.trans (txt_noesc hes))
            rw [hes] at HUN
            clear HR hes
            have HWR := Lib.hid fun w => wrong_any (k : Int) 242 w
            go_wp2_with fail
            refine (HUN.out _).mono ?_
            rintro e w' ⟨rfl, q, rfl⟩
            have HBq := Lib.hid (below_drewN HB.out q)
            go_wp2_with fail
            refine (HWR.out _).mono ?_
            rintro e w3 ⟨rfl, hb3⟩
            have HB3 := Lib.hid (HBq.out.trans (hb3.mono (HBS.out HBq.out)))
            obtain ⟨h5, K5⟩ := HST.out w3 HB3.out
            obtain ⟨⟨u0, u1, u2, u3⟩, v0, m1⟩ := blk4 h5
            have V0 := v0 0
            have V1 := v0 1
            have V2 := v0 2
            have V3 := v0 3
            have H5 := Lib.hid h5
            clear h5 hb3
            go_wp2_with fail
            have H3 := ((((H5.out.setBlk 0 (.int .i64 0)).setBlk 1 (.string ⟨#[]⟩)).setBlk 2 (.int .i64 0)).setBlk 3 (.int .i64 (k : Int)))
            simp only [List.setIfInBounds_toArray, List.set_cons_zero, List.set_cons_succ] at H3
            refine bodyPost_ret (results_aggL rfl _ _ N 30 _ _ rfl H3.blk Tryz.underlying30 rfl (by kernel_rfl)) rfl ?_
            have hgN := HGN.out
            rw [HRR.out]
            exact ⟨rfl, _, H3.drop, (((K5.setHi (by omega) 0 _).setHi (by omega) 1 _).setHi (by omega) 2 _).setHi (by omega) 3 _⟩
          · obtain ⟨b', n, hbn⟩ : ∃ b' n, escR ((lS s).drop (k + 1)) = (b', n) := ⟨_, _, rfl⟩
            have hnl : k + 1 + n ≤ s.size := by
              have h1 := (esc_app ((lS s).drop (k + 1)) [] hes).2
              rw [hbn, List.length_drop, HLN.out] at h1
              have h2 : (n : Nat) ≤ s.size - (k + 1) := h1
              omega
            have hn0 : n ≠ 0 := by rw [hbn] at hes; exact hes
            have HRR : Hid (R = txtG p (k + 1 + n) (acc ++ [b']) ((lS s).drop (k + 1 + n))) := Lib.hid (by
              have h1 := HR.out.trans (txt_esc hes)
              rw [hbn, List.drop_drop] at h1
              exact h1)
            rw [hbn] at HUN
            have e0 : ((n : Int) == 0) = false := by rw [beq_eq_false_iff_ne]; omega
            have e1 : wrap64 ((k : Int) + (n : Int)) = (k : Int) + (n : Int) := by unfold wrap64; omega
            have e2 : wrap64 ((k : Int) + (n : Int) + 1) = (k : Int) + (n : Int) + 1 := by unfold wrap64; omega
            have HWB := Lib.hid fun q => WriteByte_any (N + 1) (N + 1) acc b' (wr.drewN q) (HD.out.below (below_of_drewN _ _)) (by omega)
            clear HR hes hbn HX HEX
            go_wp2_with fail
            refine (HUN.out _).mono ?_
            rintro e w' ⟨rfl, q, rfl⟩
            go_wp2_with fail
            refine (HWB.out _).mono ?_
            rintro e w1 ⟨rfl, h1, hb1⟩
            have H1 := Lib.hid h1
            have HB1 := Lib.hid ((below_drewN HB.out _).trans hb1)
            clear h1 hb1
            go_wp2
            go_roundw
            case rel => exact ⟨k + 1 + n, acc ++ [b'], by omega, by omega, congrArg (Value.int .i64) (by omega), by simp; omega, HRR, H1, HB1⟩
            case measure => simp [intOf]; omega
        · have b92 : ((x.toNat : Int) == 92) = false := by
            rw [beq_eq_false_iff_ne]
            intro e
            exact h92 (UInt8.toNat_inj.1 (by show x.toNat = 92; omega))
          have HP := Lib.hid (isPrintable_any x wr)
          cases hpx : lxP x with
          | true =>
            have HRR : Hid (R = txtG p (k + 1) (acc ++ [x]) ((lS s).drop (k + 1))) := Lib.hid (HR.out.trans (txt_plain h39 hpx h92))
            have HWB := Lib.hid (WriteByte_any (N + 1) (N + 1) acc x wr HD.out (by omega))
            rw [hpx] at HP
            clear HR hpx h39 h92
            go_wp2_with fail
            refine HP.out.mono ?_
            rintro e w' ⟨rfl, rfl⟩
            go_wp2_with fail
            refine HWB.out.mono ?_
            rintro e w1 ⟨rfl, h1, hb1⟩
            have H1 := Lib.hid h1
            have HB1 := Lib.hid (HB.out.trans hb1)
            clear h1 hb1
            go_wp2
            go_roundw
            case rel => exact ⟨k + 1, acc ++ [x], by omega, by omega, by go_num, by simp; omega, HRR, H1, HB1⟩
            case measure => simp [intOf]; omega
          | false =>
            have HRR : Hid (R = .error (k, 240)) := Lib.hid (HR.out.trans (txt_odd h39 hpx))
            rw [hpx] at HP
            clear HR hpx h39 h92
            have HWR := Lib.hid fun w => wrong_any (k : Int) 240 w
            go_wp2_with fail
            refine HP.out.mono ?_
            rintro e w' ⟨rfl, rfl⟩
            go_wp2_with fail
            refine (HWR.out _).mono ?_
            rintro e w3 ⟨rfl, hb3⟩
            have HB3 := Lib.hid (HB.out.trans (hb3.mono (HBS.out HB.out)))
            obtain ⟨h5, K5⟩ := HST.out w3 HB3.out
            obtain ⟨⟨u0, u1, u2, u3⟩, v0, m1⟩ := blk4 h5
            have V0 := v0 0
            have V1 := v0 1
            have V2 := v0 2
            have V3 := v0 3
            have H5 := Lib.hid h5
            clear h5 hb3
            go_wp2_with fail
            have H3 := ((((H5.out.setBlk 0 (.int .i64 0)).setBlk 1 (.string ⟨#[]⟩)).setBlk 2 (.int .i64 0)).setBlk 3 (.int .i64 (k : Int)))
            simp only [List.setIfInBounds_toArray, List.set_cons_zero, List.set_cons_succ] at H3
            refine bodyPost_ret (results_aggL rfl _ _ N 30 _ _ rfl H3.blk Tryz.underlying30 rfl (by kernel_rfl)) rfl ?_
            have hgN := HGN.out
            rw [HRR.out]
            exact ⟨rfl, _, H3.drop, (((K5.setHi (by omega) 0 _).setHi (by omega) 1 _).setHi (by omega) 2 _).setHi (by omega) 3 _⟩
    · have HRR : Hid (R = .error (p, 241)) := Lib.hid (HR.out.trans (by rw [List.drop_of_length_le (by rw [HLN.out]; omega)]; exact txt_open))
      clear HR
      have HWR := Lib.hid fun w => wrong_any (p : Int) 241 w
      go_wp2_with fail
      refine (HWR.out _).mono ?_
      rintro e w3 ⟨rfl, hb3⟩
      have HB3 := Lib.hid (HB.out.trans (hb3.mono (HBS.out HB.out)))
      obtain ⟨h5, K5⟩ := HST.out w3 HB3.out
      obtain ⟨⟨u0, u1, u2, u3⟩, v0, m1⟩ := blk4 h5
      have V0 := v0 0
      have V1 := v0 1
      have V2 := v0 2
      have V3 := v0 3
      have H5 := Lib.hid h5
      clear h5 hb3
      go_wp2_with fail
      have H3 := ((((H5.out.setBlk 0 (.int .i64 0)).setBlk 1 (.string ⟨#[]⟩)).setBlk 2 (.int .i64 0)).setBlk 3 (.int .i64 (p : Int)))
      simp only [List.setIfInBounds_toArray, List.set_cons_zero, List.set_cons_succ] at H3
      refine bodyPost_ret (results_aggL rfl _ _ N 30 _ _ rfl H3.blk Tryz.underlying30 rfl (by kernel_rfl)) rfl ?_
      have hgN := HGN.out
      rw [HRR.out]
      exact ⟨rfl, _, H3.drop, (((K5.setHi (by omega) 0 _).setHi (by omega) 1 _).setHi (by omega) 2 _).setHi (by omega) 3 _⟩
end Go.Proofs.YthmgkjfohkadoaaGreatDoor
