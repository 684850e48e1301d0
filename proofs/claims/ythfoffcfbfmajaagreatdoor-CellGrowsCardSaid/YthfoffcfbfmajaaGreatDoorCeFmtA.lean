/- cell: format, Print. -/
import Derived.Test.YthfoffcfbfmajaaGreatDoorCePure2
import Derived.Test.YthfoffcfbfmajaaGreatDoorCeNumT
import Derived.Test.YthfoffcfbfmajaaGreatDoorValCheckA
import Derived.Deep.RegionHeld3
import Derived.Laws.Concat
namespace Go.Proofs.YthfoffcfbfmajaaGreatDoor
open Go.RowKit
set_option linter.unusedVariables false

/-- the beginnings of the forms stand in the program's table -/
def BegT (w : World) : Prop := ∀ k : Nat, 1 ≤ k → k ≤ 8 → w.cell? ⟨0, k, none⟩ = some (.string (mkS (begB k)))
theorem BegT.below {w w' : World} {B : Nat} (h : BegT w) (hb : Below B w w') (hB : w.heap.size ≤ B) : BegT w' := fun k h1 h2 =>
  (hb.cell (p := ⟨0, k, none⟩) (Nat.lt_of_lt_of_le (World.block_lt_of_cell? _ _ (h k h1 h2)) hB)).trans (h k h1 h2)
theorem fmtV_lo {k n : Int} {s : ByteArray} {ns : List Int} {ts : List ByteArray} (h : k < 4) : fmtV ⟨k, n, s, ns, ts⟩ = numF k n := by
  unfold fmtV
  rw [if_neg (by show ¬ k = 4; omega), if_neg (by show ¬ k = 8; omega), if_neg (by show ¬ 4 < k; omega)]
theorem fmtV_mid {k n : Int} {s : ByteArray} {ns : List Int} {ts : List ByteArray} (h : 4 < k) (h2 : k < 8) : fmtV ⟨k, n, s, ns, ts⟩ = formsN (numF (k - 4)) ns := by
  unfold fmtV
  rw [if_neg (by show ¬ k = 4; omega), if_neg (by show ¬ k = 8; omega), if_pos h]
/-- what the walk knows of the world -/
structure CeW (w : World) : Prop where
  tabs : Tabs w
  mw : MW w
  beg : BegT w
theorem CeW.below {w w' : World} {B : Nat} (h : CeW w) (hb : Below B w w') (hB : w.heap.size ≤ B) : CeW w' :=
  ⟨h.tabs.below hb hB, h.mw.below hb (Nat.lt_of_lt_of_le h.mw.pos hB), h.beg.below hb hB⟩
theorem el_texts_small {ts : List ByteArray} (h : fe txtW ts = 0) (hl : ts.length ≤ 40) : textsW ts ≤ 80040 := by
  have key : ∀ L : List ByteArray, (∀ t ∈ L, t.size ≤ 1000) → textsW L ≤ 2001 * L.length := by
    intro L
    induction L with
    | nil => intro _; exact Nat.le_refl _
    | cons t L ih =>
      intro h
      have h1 := ih fun x hx => h x (List.mem_cons_of_mem _ hx)
      have h2 := h t (List.mem_cons_self ..)
      have e : textsW (t :: L) = 2 * t.size + 1 + textsW L := by simp [textsW]
      rw [e, List.length_cons]
      omega
  have h2 := key ts fun t ht => by
    have h3 := fe_all h t ht
    unfold txtW at h3
    by_cases h4 : 1000 < t.size
    · exfalso
      revert h3
      simp [h4]
    · omega
  omega
set_option maxHeartbeats 1000000 in
theorem format_any (v : Vv) (x : Value) (B : Nat) (w : World) (hW : CeW w) (h : VR w B v x) (hB : B ≤ w.heap.size) (hc : chk v = 0) :
    Calls Tryz.prog 18 #[x] w fun e w' => e = .returned (.string (mkS (fmtV v))) ∧ Below w.heap.size w w' := by
  obtain ⟨A, c, A', c', rfl, h1, h2, h3⟩ := h
  obtain ⟨⟨g1, g2⟩, ho, hl, he⟩ := el_of hc
  obtain ⟨o1, o2, o3, o4⟩ := own_true ho
  have hv1 := h3.n1
  have hv2 := h3.n2
  have hv3 := h3.ns1
  obtain ⟨k, n, s, ns, ts⟩ := v
  unfold vagg
  simp only at *
  obtain ⟨W, hWe⟩ : ∃ W, W = w.alloc (.cells #[.int .i64 k, .int .i64 n, .string s, .slice A ns.length c, .slice A' ts.length c'] 25) := ⟨_, rfl⟩
  have hb0 : Below w.heap.size w W := by rw [hWe]; exact (Below.refl w.heap.size w).alloc (Nat.le_refl _) _
  have hr1 : RL ivl W B A ns := by rw [hWe]; exact h1.alloc hB _
  have hr2 : RL svl W B A' ts := by rw [hWe]; exact h2.alloc hB _
  have hW1 := hW.below hb0 (Nat.le_refl _)
  have hB1 : B ≤ W.heap.size := by have := hb0.size; omega
  rcases (show k < 4 ∨ k = 4 ∨ (4 < k ∧ k < 8) ∨ k = 8 by omega) with hk | hk | ⟨hk, hk2⟩ | hk
  · have HF := Lib.hid (formatNumber_any k n W hW1.tabs hv1 hv2)
    rw [fmtV_lo hk]
    generalize mkS (numF k n) = S at HF ⊢
    rw [hWe] at HF hb0
    have HB0 := Lib.hid hb0
    clear hWe hb0 hr1 hr2 hW1 hB1 h1 h2 h3 ho hl he o1 o2 o3 o4 hv1 hv2 hv3 hW hc
    rcases (show k = 1 ∨ k = 2 ∨ k = 3 by omega) with rfl | rfl | rfl
    all_goals
      clear hk g1 g2
      go_enter Tryz.func18, Tryz.ntmps18
      go_wp2_with fail
      refine HF.out.mono ?_
      rintro e w1 ⟨rfl, hb⟩
      go_wp2
      go_ret
      exact ⟨rfl, HB0.out.trans (hb.mono HB0.out.size)⟩
  · subst hk
    have e : mkS (fmtV ⟨4, n, s, ns, ts⟩) = s := by
      show mkS (lS s) = s
      exact mk_lS s
    rw [e]
    rw [hWe] at hb0
    have HB0 := Lib.hid hb0
    clear hWe hb0 hr1 hr2 hW1 hB1 h1 h2 h3 ho hl he o1 o2 o3 o4 hv1 hv2 hv3 hW hc
    go_enter Tryz.func18, Tryz.ntmps18
    go_wp2
    go_ret
    exact ⟨rfl, HB0.out⟩
  · have HF := Lib.hid (formatNumbers_any (k - 4) A c B ns W hW1.tabs hr1 hB1 hv3 (by omega))
    rw [fmtV_mid hk hk2]
    generalize mkS (formsN (numF (k - 4)) ns) = S at HF ⊢
    rw [hWe] at HF hb0
    have HB0 := Lib.hid hb0
    clear hWe hb0 hr1 hr2 hW1 hB1 h1 h2 h3 ho hl he o1 o2 o3 o4 hv1 hv2 hv3 hW hc
    rcases (show k = 5 ∨ k = 6 ∨ k = 7 by omega) with rfl | rfl | rfl
    all_goals
      clear hk hk2 g1 g2
      go_enter Tryz.func18, Tryz.ntmps18
      go_wp2_with fail
      refine HF.out.mono ?_
      rintro e w1 ⟨rfl, hb⟩
      go_wp2
      go_ret
      exact ⟨rfl, HB0.out.trans (hb.mono HB0.out.size)⟩
  · subst hk
    have hns := o3 (.inr rfl)
    subst hns
    rw [el_eight (v := ⟨8, n, s, [], ts⟩) rfl rfl] at he
    have HF := Lib.hid (formatTexts_any A' c' B ts W hW1.mw hr2 hB1 (Nat.le_trans (el_texts_small he (by simpa using hl)) (by decide)))
    have e : fmtV ⟨8, n, s, [], ts⟩ = formsT (ts.map lS) := rfl
    rw [e]
    generalize mkS (formsT (ts.map lS)) = S at HF ⊢
    rw [hWe] at HF hb0
    have HB0 := Lib.hid hb0
    clear hWe hb0 hr1 hr2 hW1 hB1 h1 h2 h3 ho hl he o1 o2 o3 o4 hv1 hv2 hv3 hW hc e
    go_enter Tryz.func18, Tryz.ntmps18
    go_wp2_with fail
    refine HF.out.mono ?_
    rintro e w1 ⟨rfl, hb⟩
    go_wp2
    go_ret
    exact ⟨rfl, HB0.out.trans (hb.mono HB0.out.size)⟩
end Go.Proofs.YthfoffcfbfmajaaGreatDoor

/- cell: Print. -/
namespace Go.Proofs.YthfoffcfbfmajaaGreatDoor
open Go.RowKit
set_option linter.unusedVariables false

theorem fmtV_len {v : Vv} (hv : Vok v) (h : chk v = 0) : (fmtV v).length ≤ 8388608 := by
  obtain ⟨⟨k1, k2⟩, ho, hl, he⟩ := el_of h
  obtain ⟨o1, o2, o3, o4⟩ := own_true ho
  obtain ⟨k, n, s, ns, ts⟩ := v
  have hn1 : -9223372036854775808 ≤ n := hv.n1
  have hn2 : n ≤ 9223372036854775807 := hv.n2
  have hns : ∀ x ∈ ns, -9223372036854775808 ≤ x ∧ x ≤ 9223372036854775807 := hv.ns1
  simp only at *
  rcases (show k < 4 ∨ k = 4 ∨ (4 < k ∧ k < 8) ∨ k = 8 by omega) with hk | hk | ⟨hk, hk2⟩ | hk
  · rw [fmtV_lo hk]
    have := numF_len k n hn1 hn2
    omega
  · subst hk
    have he2 : txtW s = 0 := by rw [el_four (v := ⟨4, n, s, ns, ts⟩) rfl] at he; exact he
    show (lS s).length ≤ _
    rw [lS_len]
    unfold txtW at he2
    by_cases h4 : 1000 < s.size
    · exfalso
      revert he2
      simp [h4]
    · omega
  · rw [fmtV_mid hk hk2]
    have := formsN_len (k - 4) ns hns
    omega
  · subst hk
    have hn := o3 (.inr rfl)
    subst hn
    rw [el_eight (v := ⟨8, n, s, [], ts⟩) rfl rfl] at he
    have h1 : textsW ts ≤ 80040 := el_texts_small he (by simpa using hl)
    have h2 := formsT_len ts
    show (formsT (ts.map lS)).length ≤ _
    omega
def PrPost (v : Vv) (w : World) (e : Ending) (w' : World) : Prop := e = .returned (.tuple #[.string (mkS (printV v).1), .int .i64 (printV v).2]) ∧ Below w.heap.size w w'
set_option maxRecDepth 100000 in
set_option maxHeartbeats 1000000 in
theorem Print_any (v : Vv) (x : Value) (B : Nat) (w : World) (hW : CeW w) (h : VR w B v x) (hB : B ≤ w.heap.size) :
    Calls Tryz.prog 11 #[x] w (PrPost v w) := by
  unfold PrPost
  obtain ⟨A, c, A', c', rfl, h1, h2, h3⟩ := h
  have hV : VR w B v (vagg v A c A' c') := ⟨A, c, A', c', rfl, h1, h2, h3⟩
  by_cases hc : chk v = 0
  · rw [printV_ok hc]
    have hkk := (el_of hc).1
    have HC := Lib.hid fun w' h1 h2 => Check_any v (vagg v A c A' c') B w' h1 h2
    have HF := Lib.hid fun w' h1 h2 h3 => format_any v (vagg v A c A' c') B w' h1 h2 h3 hc
    rw [hc] at HC
    have hcat : mkS (begB v.k) ++ mkS (fmtV v) = mkS (begB v.k ++ fmtV v) := str_cat _ _
    have hbl := begB_len v.k
    rw [← mkS_size] at hbl
    have HBG : Hid (∀ w', BegT w' → ∀ kn : Nat, v.k = (kn : Int) → w'.cell? ⟨0, kn, none⟩ = some (.string (mkS (begB v.k)))) := Lib.hid fun w' hb kn hkn => by
      rw [hkn]
      exact hb kn (by omega) (by omega)
    have hfl := fmtV_len h3 hc
    rw [← mkS_size] at hfl
    have hfl2 : ((mkS (fmtV v)).size : Int) ≤ 8388608 := by omega
    have hbl2 : ((mkS (begB v.k)).size : Int) ≤ 8388608 := by omega
    generalize mkS (begB v.k) = S1 at hcat hbl HBG hbl2
    generalize mkS (fmtV v) = S2 at HF hcat hfl hfl2
    clear hfl hbl
    have hno : ¬ (9223372036854775807 < S1.size + S2.size) := by omega
    generalize mkS (begB v.k ++ fmtV v) = S3 at hcat ⊢
    obtain ⟨k, n, s, ns, ts⟩ := v
    unfold vagg at hV HC HF ⊢
    simp only at hV HC HF hkk HBG ⊢
    obtain ⟨kn, rfl⟩ : ∃ kn : Nat, k = (kn : Int) := ⟨k.toNat, by omega⟩
    obtain ⟨wo, hwo⟩ : ∃ x, x = w.alloc (.cells #[.int .i64 kn, .int .i64 n, .string s, .slice A ns.length c, .slice A' ts.length c'] 25) := ⟨_, rfl⟩
    have hb0 : Below w.heap.size w wo := by rw [hwo]; exact (Below.refl _ _).alloc (Nat.le_refl _) _
    have Bo : Blk wo w.heap.size 25 #[.int .i64 kn, .int .i64 n, .string s, .slice A ns.length c, .slice A' ts.length c'] := by rw [hwo]; exact Blk.new _ _ _
    have hW1 := Lib.hid (hW.below hb0 (Nat.le_refl _))
    have hV1 := Lib.hid (hV.below (hb0.mono hB))
    have hB1 : B ≤ wo.heap.size := by have := hb0.size; omega
    have HCat := Lib.hid hcat
    clear hcat hV hW h1 h2 h3 hc
    go_enter Tryz.func11, Tryz.ntmps11
    go_wp2_with fail
    rw [← hwo]
    clear hwo
    obtain ⟨c0, c1, c2, c3, c4⟩ := box_cells Bo
    refine (HC.out wo hV1.out hB1).mono ?_
    rintro e w1 ⟨rfl, b1⟩
    have B1 := Bo.below b1 Bo.lt
    have hb1 := hb0.trans (b1.mono hb0.size)
    have hW2 := Lib.hid (hW1.out.below b1 (Nat.le_refl _))
    have hV2 := Lib.hid (hV1.out.below (b1.mono hB1))
    have hB2 : B ≤ w1.heap.size := by have := b1.size; omega
    clear c0 c1 c2 c3 c4 b1 hb0
    obtain ⟨c0, c1, c2, c3, c4⟩ := box_cells B1
    have hcell := HBG.out w1 hW2.out.beg kn rfl
    have hkn : (0 : Int) ≤ (kn : Int) ∧ (kn : Int) < 9 := by omega
    have hk9 : (kn : Int) < 9 := hkn.2
    have HD := Lib.hid (HF.out w1.drew (hW2.out.below ((Below.refl w1.heap.size w1).drew) (Nat.le_refl _)) (hV2.out.below ((Below.refl B w1).drew)) hB2)
    clear hkn
    go_wp2_with fail
    go_region_held3 (fun w' => w'.cell? ⟨w.heap.size, 0, none⟩ = some (.int .i64 kn) ∧ w'.cell? ⟨w.heap.size, 1, none⟩ = some (.int .i64 n) ∧ w'.cell? ⟨w.heap.size, 2, none⟩ = some (.string s) ∧ w'.cell? ⟨w.heap.size, 3, none⟩ = some (.slice A ns.length c) ∧ w'.cell? ⟨w.heap.size, 4, none⟩ = some (.slice A' ts.length c') ∧ w'.cell? ⟨0, kn, none⟩ = some (.string S1)) (go_keep)
      ((go_at_call 18; refine (HD.out).mono ?_; rintro e w3 ⟨rfl, b3⟩; have B3 := Blk.below (Blk.drewN B1 1) b3 B1.lt; obtain ⟨c0, c1, c2, c3, c4⟩ := box_cells B3; have hW3 := hW2.out.below (((Below.refl w1.heap.size w1).drew).trans b3) (Nat.le_refl _); have hcell3 := HBG.out w3 hW3.beg kn rfl; have hb3 := hb1.trans ((((Below.refl w1.heap.size w1).drew).trans b3).mono hb1.size)))
    rw [HCat.out]
    go_wp2
    go_ret2
    exact ⟨rfl, hb3⟩
  · rw [printV_no hc]
    obtain ⟨E, hE⟩ : ∃ E, E = chk v := ⟨_, rfl⟩
    have HC := Lib.hid fun w' h1 h2 => Check_any v (vagg v A c A' c') B w' h1 h2
    rw [← hE] at HC hc ⊢
    have hne : (E != 0) = true := by simpa using hc
    obtain ⟨k, n, s, ns, ts⟩ := v
    unfold vagg at hV HC ⊢
    simp only at hV HC ⊢
    obtain ⟨wo, hwo⟩ : ∃ x, x = w.alloc (.cells #[.int .i64 k, .int .i64 n, .string s, .slice A ns.length c, .slice A' ts.length c'] 25) := ⟨_, rfl⟩
    have hb0 : Below w.heap.size w wo := by rw [hwo]; exact (Below.refl _ _).alloc (Nat.le_refl _) _
    have hV1 := Lib.hid (hV.below (hb0.mono hB))
    have hB1 : B ≤ wo.heap.size := by have := hb0.size; omega
    clear hV hW h1 h2 h3 hc hE
    go_enter Tryz.func11, Tryz.ntmps11
    go_wp2_with fail
    rw [← hwo]
    clear hwo
    refine (HC.out wo hV1.out hB1).mono ?_
    rintro e w1 ⟨rfl, b1⟩
    have hb1 := hb0.trans (b1.mono hb0.size)
    clear b1 hb0
    go_wp2
    go_ret2
    exact ⟨rfl, hb1⟩
end Go.Proofs.YthfoffcfbfmajaaGreatDoor
