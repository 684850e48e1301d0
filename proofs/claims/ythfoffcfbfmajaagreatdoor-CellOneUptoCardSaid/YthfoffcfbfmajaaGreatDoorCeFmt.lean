/- cell: format, Print. -/
import Derived.Test.YthfoffcfbfmajaaGreatDoorCePure2
import Derived.Test.YthfoffcfbfmajaaGreatDoorCeNumT
import Derived.Test.YthfoffcfbfmajaaGreatDoorValCheckA
namespace Go.Proofs.YthfoffcfbfmajaaGreatDoor
open Go.RowKit
set_option linter.unusedVariables false

/-- the beginnings of the forms stand in the program's table -/
def BegT (w : World) : Prop := ∀ k : Nat, 1 ≤ k → k ≤ 8 → w.cell? ⟨0, k, none⟩ = some (.string (mkS (begB k)))
theorem BegT.below {w w' : World} {B : Nat} (h : BegT w) (hb : Below B w w') (hB : w.heap.size ≤ B) : BegT w' := fun k h1 h2 =>
  (hb.cell (p := ⟨0, k, none⟩) (Nat.lt_of_lt_of_le (World.block_lt_of_cell? _ _ (h k h1 h2)) hB)).trans (h k h1 h2)
theorem fmtV_lo {k n : Int} {s : ByteArray} {ns : List Int} {ts : List ByteArray} (h : k < 4) : fmtV ⟨k, n, s, ns, ts⟩ = numF k n := by
  unfold fmtV
  rw [if_neg (by show ¬ k = 4; omega), if_neg (by show ¬ k = 8; omega), if_neg (by show ¬ 4 < k; omega)]
theorem fmtV_mid {k n : Int} {s : ByteArray} {ns : List Int} {ts : List ByteArray} (h : 4 < k) (h2 : k < 8) : fmtV ⟨k, n, s, ns, ts⟩ = formsN (numF (k - 4)) ns := by
  unfold fmtV
  rw [if_neg (by show ¬ k = 4; omega), if_neg (by show ¬ k = 8; omega), if_pos h]
/-- what the walk knows of the world -/
structure CeW (w : World) : Prop where
  tabs : Tabs w
  mw : MW w
  beg : BegT w
theorem CeW.below {w w' : World} {B : Nat} (h : CeW w) (hb : Below B w w') (hB : w.heap.size ≤ B) : CeW w' :=
  ⟨h.tabs.below hb hB, h.mw.below hb (Nat.lt_of_lt_of_le h.mw.pos hB), h.beg.below hb hB⟩
theorem el_texts_small {ts : List ByteArray} (h : fe txtW ts = 0) (hl : ts.length ≤ 40) : textsW ts ≤ 80040 := by
  have key : ∀ L : List ByteArray, (∀ t ∈ L, t.size ≤ 1000) → textsW L ≤ 2001 * L.length := by
    intro L
    induction L with
    | nil => intro _; exact Nat.le_refl _
    | cons t L ih =>
      intro h
      have h1 := ih fun x hx => h x (List.mem_cons_of_mem _ hx)
      have h2 := h t (List.mem_cons_self ..)
      have e : textsW (t :: L) = 2 * t.size + 1 + textsW L := by simp [textsW]
      rw [e, List.length_cons]
      omega
  have h2 := key ts fun t ht => by
    have h3 := fe_all h t ht
    unfold txtW at h3
    by_cases h4 : 1000 < t.size
    · exfalso
      revert h3
      simp [h4]
    · omega
  omega
set_option maxHeartbeats 1000000 in
theorem format_any (v : Vv) (x : Value) (B : Nat) (w : World) (hW : CeW w) (h : VR w B v x) (hB : B ≤ w.heap.size) (hc : chk v = 0) :
    Calls Tryz.prog 18 #[x] w fun e w' => e = .returned (.string (mkS (fmtV v))) ∧ Below w.heap.size w w' := by
  obtain ⟨A, c, A', c', rfl, h1, h2, h3⟩ := h
  obtain ⟨⟨g1, g2⟩, ho, hl, he⟩ := el_of hc
  obtain ⟨o1, o2, o3, o4⟩ := own_true ho
  have hv1 := h3.n1
  have hv2 := h3.n2
  have hv3 := h3.ns1
  obtain ⟨k, n, s, ns, ts⟩ := v
  unfold vagg
  simp only at *
  obtain ⟨W, hWe⟩ : ∃ W, W = w.alloc (.cells #[.int .i64 k, .int .i64 n, .string s, .slice A ns.length c, .slice A' ts.length c'] 25) := ⟨_, rfl⟩
  have hb0 : Below w.heap.size w W := by rw [hWe]; exact (Below.refl w.heap.size w).alloc (Nat.le_refl _) _
  have hr1 : RL ivl W B A ns := by rw [hWe]; exact h1.alloc hB _
  have hr2 : RL svl W B A' ts := by rw [hWe]; exact h2.alloc hB _
  have hW1 := hW.below hb0 (Nat.le_refl _)
  have hB1 : B ≤ W.heap.size := by have := hb0.size; omega
  rcases (show k < 4 ∨ k = 4 ∨ (4 < k ∧ k < 8) ∨ k = 8 by omega) with hk | hk | ⟨hk, hk2⟩ | hk
  · have HF := Lib.hid (formatNumber_any k n W hW1.tabs hv1 hv2)
    rw [fmtV_lo hk]
    generalize mkS (numF k n) = S at HF ⊢
    rw [hWe] at HF hb0
    have HB0 := Lib.hid hb0
    clear hWe hb0 hr1 hr2 hW1 hB1 h1 h2 h3 ho hl he o1 o2 o3 o4 hv1 hv2 hv3 hW hc
    rcases (show k = 1 ∨ k = 2 ∨ k = 3 by omega) with rfl | rfl | rfl
    all_goals
      clear hk g1 g2
      go_enter Tryz.func18, Tryz.ntmps18
      go_wp2_with fail
      refine HF.out.mono ?_
      rintro e w1 ⟨rfl, hb⟩
      go_wp2
      go_ret
      exact ⟨rfl, HB0.out.trans (hb.mono HB0.out.size)⟩
  · subst hk
    have e : mkS (fmtV ⟨4, n, s, ns, ts⟩) = s := by
      show mkS (lS s) = s
      exact mk_lS s
    rw [e]
    rw [hWe] at hb0
    have HB0 := Lib.hid hb0
    clear hWe hb0 hr1 hr2 hW1 hB1 h1 h2 h3 ho hl he o1 o2 o3 o4 hv1 hv2 hv3 hW hc
    go_enter Tryz.func18, Tryz.ntmps18
    go_wp2
    go_ret
    exact ⟨rfl, HB0.out⟩
  · have HF := Lib.hid (formatNumbers_any (k - 4) A c B ns W hW1.tabs hr1 hB1 hv3 (by omega))
    rw [fmtV_mid hk hk2]
    generalize mkS (formsN (numF (k - 4)) ns) = S at HF ⊢
    rw [hWe] at HF hb0
    have HB0 := Lib.hid hb0
    clear hWe hb0 hr1 hr2 hW1 hB1 h1 h2 h3 ho hl he o1 o2 o3 o4 hv1 hv2 hv3 hW hc
    rcases (show k = 5 ∨ k = 6 ∨ k = 7 by omega) with rfl | rfl | rfl
    all_goals
      clear hk hk2 g1 g2
      go_enter Tryz.func18, Tryz.ntmps18
      go_wp2_with fail
      refine HF.out.mono ?_
      rintro e w1 ⟨rfl, hb⟩
      go_wp2
      go_ret
      exact ⟨rfl, HB0.out.trans (hb.mono HB0.out.size)⟩
  · subst hk
    have hns := o3 (.inr rfl)
    subst hns
    rw [el_eight (v := ⟨8, n, s, [], ts⟩) rfl rfl] at he
    have HF := Lib.hid (formatTexts_any A' c' B ts W hW1.mw hr2 hB1 (Nat.le_trans (el_texts_small he (by simpa using hl)) (by decide)))
    have e : fmtV ⟨8, n, s, [], ts⟩ = formsT (ts.map lS) := rfl
    rw [e]
    generalize mkS (formsT (ts.map lS)) = S at HF ⊢
    rw [hWe] at HF hb0
    have HB0 := Lib.hid hb0
    clear hWe hb0 hr1 hr2 hW1 hB1 h1 h2 h3 ho hl he o1 o2 o3 o4 hv1 hv2 hv3 hW hc e
    go_enter Tryz.func18, Tryz.ntmps18
    go_wp2_with fail
    refine HF.out.mono ?_
    rintro e w1 ⟨rfl, hb⟩
    go_wp2
    go_ret
    exact ⟨rfl, HB0.out.trans (hb.mono HB0.out.size)⟩
end Go.Proofs.YthfoffcfbfmajaaGreatDoor
