/- lexer: the scanner: mark. -/
import Derived.Test.YthmgkjfohkadoaaGreatDoorLxF
namespace Go.Proofs.YthmgkjfohkadoaaGreatDoor
open Go.RowKit
set_option linter.unusedVariables false

theorem MarkT.all {w : World} (h : MarkT w) : w.cell? ⟨0, 0, none⟩ = some (.string ⟨#[40]⟩) ∧ w.cell? ⟨0, 1, none⟩ = some (.string ⟨#[41]⟩) ∧ w.cell? ⟨0, 2, none⟩ = some (.string ⟨#[123]⟩) ∧ w.cell? ⟨0, 3, none⟩ = some (.string ⟨#[125]⟩) ∧ w.cell? ⟨0, 4, none⟩ = some (.string ⟨#[91]⟩) ∧ w.cell? ⟨0, 5, none⟩ = some (.string ⟨#[93]⟩)
    ∧ w.cell? ⟨0, 6, none⟩ = some (.string ⟨#[58]⟩) ∧ w.cell? ⟨0, 7, none⟩ = some (.string ⟨#[44]⟩) ∧ w.cell? ⟨0, 8, none⟩ = some (.string ⟨#[59]⟩) ∧ w.cell? ⟨0, 9, none⟩ = some (.string ⟨#[45, 62]⟩) ∧ w.cell? ⟨0, 10, none⟩ = some (.string ⟨#[45]⟩) :=
  ⟨h 0 (by decide), h 1 (by decide), h 2 (by decide), h 3 (by decide), h 4 (by decide), h 5 (by decide), h 6 (by decide), h 7 (by decide), h 8 (by decide), h 9 (by decide), h 10 (by decide)⟩
/-- the first mark of the list with which l begins -/
def markX (p : Nat) (l : Bs) : List Bs → Except (Nat × Int) (Tk × Nat)
  | [] => .error (p, 240)
  | m :: r => if Lib.hasPrefix l m = true then .ok (⟨5, m, 0, p⟩, m.length) else markX p l r
theorem run_index_aggL {P : Program} (t e : TypeId) (n : Nat) (cs : Array Value) (i : Nat) (v : Value) (w : World) (h : P.underlying t = some (.array n e)) (hs : ∀ w, (sizeOf e).run P w = .ok 1 w) (hag : ∀ w, (isAgg e).run P w = .ok false w) (hi : i < n) (hv : cs[i]? = some v) :
    (Instr.index t (.agg cs) (.int .i64 (i : Int))).run P w = .ok v w := by
  have hn : 0 ≤ (i : Int) ∧ (i : Int) < (n : Int) := by omega
  simp [Instr.index, run_underlying h, asIntOf, hn, go_sem, hs, hag, hv]
  intro h0
  omega
theorem str_info : (Tryz.prog.info? 9).map (fun i => i.size) = some 1 := by kernel_rfl
theorem size_runL {P : Program} {t : TypeId} {i : TypeInfo} (hi : P.info? t = some i) (w : World) : (sizeOf t).run P w = .ok i.size w := by simp [sizeOf, typeInfo, hi]
theorem wrap_addL {a b : Nat} (ha : a ≤ 2147483648) (hb : b ≤ 2147483648) : wrap64 ((a : Int) + (b : Int)) = (a : Int) + (b : Int) := by unfold wrap64; omega
theorem str_size1 (w : World) : (sizeOf 9).run Tryz.prog w = .ok 1 w := by
  obtain ⟨i, hi, hs⟩ := Option.map_eq_some_iff.1 str_info
  rw [size_runL hi w, hs]
theorem str_noagg (w : World) : (isAgg 9).run Tryz.prog w = .ok false w := by
  simp [isAgg, Sem.run_bind, run_underlying Tryz.underlying9, Result.andThen]
def markV : Array Value := #[.string ⟨#[40]⟩, .string ⟨#[41]⟩, .string ⟨#[123]⟩, .string ⟨#[125]⟩, .string ⟨#[91]⟩, .string ⟨#[93]⟩, .string ⟨#[58]⟩, .string ⟨#[44]⟩, .string ⟨#[59]⟩, .string ⟨#[45, 62]⟩, .string ⟨#[45]⟩]
theorem mark_at (i : Nat) (v : Value) (w : World) (hi : i < 11) (hv : markV[i]? = some v) : (Instr.index 74 (.agg markV) (.int .i64 (i : Int))).run Tryz.prog w = .ok v w :=
  run_index_aggL _ _ 11 _ _ _ _ Tryz.underlying74 str_size1 str_noagg hi hv
theorem mark_k {k : Nat} (h : k < 11) : ∃ m : Bs, markV[k]? = some (.string (mkS m)) ∧ markL.drop k = m :: markL.drop (k + 1) ∧ m.length ≤ 2 := by
  have hk : k = 0 ∨ k = 1 ∨ k = 2 ∨ k = 3 ∨ k = 4 ∨ k = 5 ∨ k = 6 ∨ k = 7 ∨ k = 8 ∨ k = 9 ∨ k = 10 := by omega
  rcases hk with rfl | rfl | rfl | rfl | rfl | rfl | rfl | rfl | rfl | rfl | rfl
  all_goals exact ⟨_, rfl, rfl, by decide⟩
set_option maxRecDepth 100000 in
set_option maxHeartbeats 400000 in
theorem mark_any {S : Fp} {lst : List Ass} [Stable (Sep lst)] {w0 w : World} (g p : Nat) (s : ByteArray) (h : St S (ScA g s p :: lst) w0 w) (hp : p < s.size) (hs : s.size ≤ 1073741824) (hK : LxK g w) :
    Calls Tryz.prog 23 #[.pointer (some ⟨g, 0, none⟩)] w (TokW S lst w0 g s p (markX p ((lS s).drop p) markL)) := by
  obtain ⟨R, hR⟩ : ∃ R, R = markX p ((lS s).drop p) markL := ⟨_, rfl⟩
  rw [← hR]
  have HRE : Hid (R = markX p ((lS s).drop p) (markL.drop 0)) := Lib.hid hR
  obtain ⟨x0, x1, x2, x3, x4, x5, x6, x7, x8, x9, x10⟩ := hK.w.marks.all
  obtain ⟨c0, c1, f1, g0⟩ := sc_cells h
  have gm := World.block_lt_of_cell? _ _ x0
  obtain ⟨N, hN⟩ : ∃ N, N = w.heap.size := ⟨_, rfl⟩
  have HNE := Lib.hid hN
  obtain ⟨W1, hW1⟩ : ∃ W1, W1 = w.alloc (.cells tkZ 30) := ⟨_, rfl⟩
  have HW1 := Lib.hid hW1
  have h1 : St S (BlkA N 30 tkZ :: ScA g s p :: lst) w0 W1 := by rw [hW1, hN]; exact h.newBlk 30 tkZ
  have k1 : LxK g W1 := by rw [hW1]; exact hK.below ((Below.refl _ _).alloc (Nat.le_refl _) _)
  have HGN : Hid (g < N) := Lib.hid (by rw [hN]; exact g0)
  have HR : Hid (∀ wx, St S (BlkA N 30 tkZ :: ScA g s p :: lst) w0 wx → LxK g wx → Calls Tryz.prog 16 #[.pointer (some ⟨g, 0, none⟩)] wx fun e w' => e = .returned (.string (mkS ((lS s).drop p))) ∧ St S (BlkA N 30 tkZ :: ScA g s p :: lst) w0 w' ∧ LxK g w') := Lib.hid fun wx h1 h2 =>
    (rest_any g p s h1.swap (Nat.le_of_lt hp) hs).mono fun e w' ⟨h3, q, h4⟩ => ⟨h3, h4 ▸ h1.drewN q, h4 ▸ h2.drewN q⟩
  have HHP : Hid (∀ (m : Bs) w, Calls Tryz.prog 15 #[.string (mkS ((lS s).drop p)), .string (mkS m)] w fun e w' => e = .returned (.bool (Lib.hasPrefix ((lS s).drop p) m)) ∧ w = w') := Lib.hid fun m w =>
    (Tryz.strings_HasPrefix (mkS ((lS s).drop p)) (mkS m) w).mono fun e w' ⟨h1, h2⟩ => ⟨h1, h2.symm⟩
  obtain ⟨D, hD⟩ : ∃ D, D = mkS ((lS s).drop p) := ⟨_, rfl⟩
  rw [← hD] at HR HHP
  generalize (lS s).drop p = L at HRE HHP
  have HS1 := Lib.hid h1
  have HK1 := Lib.hid k1
  have hpb : p < 1073741824 := by omega
  clear h hK hN hW1 h1 k1 hR hD hs hp
  obtain ⟨C, hC⟩ : ∃ C : Array Value, C = #[.string ⟨#[40]⟩, .string ⟨#[41]⟩, .string ⟨#[123]⟩, .string ⟨#[125]⟩, .string ⟨#[91]⟩, .string ⟨#[93]⟩, .string ⟨#[58]⟩, .string ⟨#[44]⟩, .string ⟨#[59]⟩, .string ⟨#[45, 62]⟩, .string ⟨#[45]⟩] := ⟨_, rfl⟩
  go_enter Tryz.func23, Tryz.ntmps23
  go_wp2
  rw [← HW1.out, ← HNE.out]
  rw [← hC]
  have HC := Lib.hid hC
  clear hC
  clear HW1 HNE x0 x1 x2 x3 x4 x5 x6 x7 x8 x9 x10 c0 c1 f1 g0 gm
  go_loopw [8] (fun i wr => ∃ k : Nat, k ≤ 11 ∧ i = .int .i64 k ∧ Hid (R = markX p L (markL.drop k)) ∧ Hid (St S (BlkA N 30 tkZ :: ScA g s p :: lst) w0 wr) ∧ Hid (LxK g wr)) (fun i _ => 11 - (intOf i).toNat)
  case atStart => exact ⟨0, by decide, rfl, HRE, HS1, HK1⟩
  case round =>
    obtain ⟨k, hk, rfl, HRK, HST, HLK⟩ := hrel
    clear HRE HS1 HK1
    by_cases hlt : k < 11
    · obtain ⟨m, hm1, hm2, hm3⟩ := mark_k hlt
      have hix : ∀ w, (Instr.index 74 (.agg C) (.int .i64 (k : Int))).run Tryz.prog w = .ok (.string (mkS m)) w := fun w => by rw [HC.out]; exact mark_at k _ w hlt hm1
      have HMX : Hid (R = if Lib.hasPrefix L m = true then .ok (⟨5, m, 0, p⟩, m.length) else markX p L (markL.drop (k + 1))) := Lib.hid (by rw [HRK.out, hm2]; rfl)
      have HPX : Hid (∀ w, Calls Tryz.prog 15 #[.string D, .string (mkS m)] w fun e w' => e = .returned (.bool (Lib.hasPrefix L m)) ∧ w = w') := Lib.hid fun w => HHP.out m w
      have HRX := Lib.hid (HR.out _ HST.out HLK.out)
      have hsz : (mkS m).size = m.length := mkS_size m
      obtain ⟨ms, hms⟩ : ∃ ms, ms = mkS m := ⟨_, rfl⟩
      rw [← hms] at hix HPX hsz
      have HMS := Lib.hid hms
      clear HRK HST HLK hm1 hm2 hms
      cases hb : Lib.hasPrefix L m with
      | false =>
        rw [hb] at HPX
        have HRN : Hid (R = markX p L (markL.drop (k + 1))) := Lib.hid (by rw [HMX.out, hb, if_neg (by decide)])
        clear hb HMX hsz hm3
        go_wp2_with fail
        refine HRX.out.mono ?_
        rintro e w1 ⟨rfl, h1, k1⟩
        have H1 := Lib.hid h1
        have K1 := Lib.hid k1
        clear h1 k1
        go_wp2_with fail
        refine (HPX.out _).mono ?_
        rintro e w' ⟨rfl, rfl⟩
        go_wp2
        go_roundw
        case rel => exact ⟨k + 1, by omega, by go_num, HRN, H1, K1⟩
        case measure => simp [intOf]; omega
      | true =>
        rw [hb] at HPX
        have HRR : Hid (R = .ok (⟨5, m, 0, p⟩, m.length)) := Lib.hid (by rw [HMX.out, hb, if_pos rfl])
        have e1 : wrap64 ((p : Int) + (ms.size : Int)) = (p : Int) + (ms.size : Int) := wrap_addL (by omega) (by omega)
        have hszi : (ms.size : Int) = (m.length : Int) := by rw [hsz]
        clear hb HMX
        go_wp2_with fail
        refine HRX.out.mono ?_
        rintro e w1 ⟨rfl, h1, k1⟩
        have H1 := Lib.hid h1
        have K1 := Lib.hid k1
        obtain ⟨⟨d0, d1, d2, d3⟩, f0, l1⟩ := blk4 h1
        have F0 := f0 0
        have F1 := f0 1
        have F2 := f0 2
        have F3 := f0 3
        obtain ⟨c0, c1, f1, g0⟩ := sc_cells h1.swap
        have hgN := HGN.out
        have m5 : g ≠ N := by omega
        have m6 : N ≠ g := by omega
        have HV : Hid ((p : Int) + (ms.size : Int) = ((p + m.length : Nat) : Int)) := Lib.hid (by omega)
        clear h1 k1 f0 hszi hsz hm3
        go_wp2_with fail
        refine (HPX.out _).mono ?_
        rintro e w' ⟨rfl, rfl⟩
        go_wp2_with fail
        have H2 := (H1.out.swap.setBlk 1 (.int .i64 ((p : Int) + (ms.size : Int)))).swap
        have H3 := ((((H2.setBlk 0 (.int .i64 5)).setBlk 1 (.string ms)).setBlk 2 (.int .i64 0)).setBlk 3 (.int .i64 (p : Int))).alloc (.cells #[.int .i64 5, .string ms, .int .i64 0, .int .i64 (p : Int)] 30)
        simp only [List.setIfInBounds_toArray, List.set_cons_zero, List.set_cons_succ] at H3
        refine bodyPost_ret (results_aggL rfl _ _ N 30 _ _ rfl H3.blk Tryz.underlying30 rfl (by kernel_rfl)) rfl ?_
        rw [HRR.out]
        refine ⟨by rw [HMS.out]; rfl, ?_, (((((K1.out.set 1 _).setHi (by omega) 0 _).setHi (by omega) 1 _).setHi (by omega) 2 _).setHi (by omega) 3 _).below ((Below.refl _ _).alloc (Nat.le_refl _) _)⟩
        rw [HV.out] at H3 ⊢
        exact H3.drop
    · have HRR : Hid (R = .error (p, 240)) := Lib.hid (by rw [HRK.out, show k = 11 by omega]; rfl)
      have HWR := Lib.hid fun w => wrong_any (p : Int) 240 w
      obtain ⟨c0, c1, f1, g0⟩ := sc_cells HST.out.swap
      go_wp2_with fail
      refine (HWR.out _).mono ?_
      rintro e w3 ⟨rfl, hb3⟩
      have h5 := HST.out.below hb3
      have K5 := Lib.hid (HLK.out.below hb3)
      obtain ⟨⟨u0, u1, u2, u3⟩, v0, m1⟩ := blk4 h5
      have V0 := v0 0
      have V1 := v0 1
      have V2 := v0 2
      have V3 := v0 3
      have H5 := Lib.hid h5
      clear h5 hb3
      go_wp2_with fail
      have H3 := ((((H5.out.setBlk 0 (.int .i64 0)).setBlk 1 (.string ⟨#[]⟩)).setBlk 2 (.int .i64 0)).setBlk 3 (.int .i64 (p : Int)))
      simp only [List.setIfInBounds_toArray, List.set_cons_zero, List.set_cons_succ] at H3
      refine bodyPost_ret (results_aggL rfl _ _ N 30 _ _ rfl H3.blk Tryz.underlying30 rfl (by kernel_rfl)) rfl ?_
      have hgN := HGN.out
      rw [HRR.out]
      exact ⟨rfl, _, H3.drop, (((K5.out.setHi (by omega) 0 _).setHi (by omega) 1 _).setHi (by omega) 2 _).setHi (by omega) 3 _⟩
end Go.Proofs.YthmgkjfohkadoaaGreatDoor
