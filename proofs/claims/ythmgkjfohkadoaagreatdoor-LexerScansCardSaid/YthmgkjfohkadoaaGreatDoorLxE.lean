/- lexer: the scanner: word, number. -/
import Derived.Test.YthmgkjfohkadoaaGreatDoorLxD
namespace Go.Proofs.YthmgkjfohkadoaaGreatDoor
open Go.RowKit
set_option linter.unusedVariables false

theorem St.keepLx {S : Fp} {lst : List Ass} [Stable (Sep lst)] {w0 w w' : World} {g p : Nat} {s : ByteArray} (h : St S (ScA g s p :: lst) w0 w) (hK : LxK g w) (hb : Below w.heap.size w w') : St S (ScA g s p :: lst) w0 w' ∧ LxK g w' := ⟨h.below hb, hK.below hb⟩
theorem LxK.setHi {g b : Nat} {w : World} (h : LxK g w) (hb : g ≤ b) (i : Nat) (v : Value) : LxK g (w.setCell ⟨b, i, none⟩ v) := h.belowG ((Below.refl g w).setCell (p := ⟨b, i, none⟩) hb v)
/-- what a method that reads a token answers -/
def TokW (S : Fp) (lst : List Ass) (w0 : World) (g : Nat) (s : ByteArray) (p : Nat) (r : Except (Nat × Int) (Tk × Nat)) (e : Ending) (w' : World) : Prop :=
  match r with
  | .error x => e = .returned (.tuple #[tkV (tk0 x.1), .int .i64 x.2]) ∧ ∃ q, St S (ScA g s q :: lst) w0 w' ∧ LxK g w'
  | .ok x => e = .returned (.tuple #[tkV x.1, .int .i64 0]) ∧ St S (ScA g s (p + x.2) :: lst) w0 w' ∧ LxK g w'
set_option maxRecDepth 100000 in
set_option maxHeartbeats 1000000 in
theorem word_any {S : Fp} {lst : List Ass} [Stable (Sep lst)] {w0 w : World} (g p : Nat) (s : ByteArray) (h : St S (ScA g s p :: lst) w0 w) (hp : p < s.size) (hs : s.size ≤ 1073741824) (hK : LxK g w) :
    Calls Tryz.prog 19 #[.pointer (some ⟨g, 0, none⟩)] w fun e w' => e = .returned (tkV ⟨1, ((lS s).drop p).take (1 + (((lS s).drop (p + 1)).takeWhile lxW).length), 0, p⟩) ∧ St S (ScA g s (p + (1 + (((lS s).drop (p + 1)).takeWhile lxW).length)) :: lst) w0 w' ∧ LxK g w' := by
  have hN := h.newBlk 30 tkZ
  have hKN : LxK g (w.alloc (.cells tkZ 30)) := hK.below ((Below.refl _ _).alloc (Nat.le_refl _) _)
  have HT := Lib.hid (take_word g p s hN.swap hp hs hKN)
  unfold TakW at HT
  obtain ⟨L, hL⟩ : ∃ L, L = ((lS s).drop p).take (1 + (((lS s).drop (p + 1)).takeWhile lxW).length) := ⟨_, rfl⟩
  have hLs : (mkS L).size ≤ 281474976710656 := by
    rw [mkS_size, hL, List.length_take, List.length_drop, lS_len]
    omega
  rw [← hL] at HT ⊢
  generalize (1 + (((lS s).drop (p + 1)).takeWhile lxW).length) = n at HT ⊢
  have HC := Lib.hid fun w => SClone_any (mkS L) w hLs
  obtain ⟨c0, c1, f1, g0⟩ := sc_cells h
  obtain ⟨D, hD⟩ : ∃ D, D = mkS L := ⟨_, rfl⟩
  rw [← hD] at HT HC
  have HD := Lib.hid hD
  obtain ⟨N, hNs⟩ : ∃ N, N = w.heap.size := ⟨_, rfl⟩
  clear hN hKN h hK hL hLs hD
  go_enter Tryz.func19, Tryz.ntmps19
  go_wp2_with fail
  rw [← hNs] at HT ⊢
  have HNs : Hid (g < N) := Lib.hid (by rw [hNs]; exact g0)
  clear hNs
  refine HT.out.mono ?_
  rintro e w1 ⟨rfl, h1, k1⟩
  have H1 := Lib.hid h1
  have K1 := Lib.hid k1
  clear h1 k1 HT
  go_wp2_with fail
  refine (HC.out _).mono ?_
  rintro e w2 ⟨rfl, hb2⟩
  have h2 := H1.out.below hb2
  have K2 := Lib.hid (K1.out.below hb2)
  obtain ⟨⟨d0, d1, d2, d3⟩, f0, l1⟩ := blk4 h2.swap
  have F0 := f0 0
  have F1 := f0 1
  have F2 := f0 2
  have F3 := f0 3
  have H2 := Lib.hid h2
  clear h2 hb2
  go_wp2_with fail
  have H3 := ((((H2.out.swap.setBlk 0 (.int .i64 1)).setBlk 1 (.string D)).setBlk 2 (.int .i64 0)).setBlk 3 (.int .i64 (p : Int)))
  simp only [List.setIfInBounds_toArray, List.set_cons_zero, List.set_cons_succ] at H3
  refine bodyPost_ret (results_agg1 rfl _ _ N 30 _ _ rfl H3.blk Tryz.underlying30 rfl (by kernel_rfl)) rfl ?_
  refine ⟨by rw [HD.out]; rfl, H3.drop, ?_⟩
  have hgN := HNs.out
  exact (((K2.out.setHi (by omega) 0 _).setHi (by omega) 1 _).setHi (by omega) 2 _).setHi (by omega) 3 _
end Go.Proofs.YthmgkjfohkadoaaGreatDoor
