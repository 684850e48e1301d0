/- cell: what the law's example wants. -/
import Derived.Test.YthfoffcfbfmajaaGreatDoorCeFmtA
import Derived.Test.YthfoffcfbfmajaaGreatDoorCeParseA
namespace Go.Proofs.YthfoffcfbfmajaaGreatDoor
open Go.RowKit
set_option linter.unusedVariables false

theorem RL.litC {α : Type} {f : α → Value} (w : World) (e : TypeId) (L : List α) (cs : Array Value) (hcs : cs.toList = L.map f) (hok : ∀ x ∈ L, f x ≠ undef ∧ (f x).oneCell' = true) (hm : L.length ≤ maxLen) : RL f (w.alloc (.cells cs e)) (w.heap.size + 1) (some ⟨w.heap.size, 0, none⟩) L := by
  have h := World.ownsRow_lit (base := 0) (e := e) (size := 1) w cs L.length (Nat.zero_le _) hm (by rw [← Array.length_toList, hcs, List.length_map, Nat.mul_one])
  rw [hcs] at h
  have := RL.of_own (f := f) hok h
  simpa using this
def ts22 : List ByteArray := [⟨#[97, 59, 98]⟩, ⟨#[92]⟩, ⟨#[]⟩]
def v22 : Vv := ⟨8, 0, mkS [], [], ts22⟩
def s22 : ByteArray := ⟨#[115, 91, 93, 58, 97, 92, 59, 98, 59, 92, 92, 59, 59]⟩
theorem v22_ok : Vok v22 := vok_of (by decide) (by decide) (by decide) no_mem (by decide) (by decide) (by decide)
theorem chk_num {k n : Int} (h1 : 1 ≤ k) (h2 : k < 4) : chk ⟨k, n, mkS [], [], []⟩ = numW k n := by
  have ho : ownB ⟨k, n, mkS [], [], []⟩ = true := by
    unfold ownB
    exact decide_eq_true ⟨fun h => absurd h (by show ¬ 3 < k; omega), fun _ => no_text, fun _ => rfl, fun _ => rfl⟩
  rw [chk_el (gk_yes ⟨h1, by show k ≤ 8; omega⟩) ho (by show ¬ 40 < ([] : List Int).length + ([] : List ByteArray).length; decide), el_lo (v := ⟨k, n, mkS [], [], []⟩) h2]
theorem chk_texts {ts : List ByteArray} (h : ts.length ≤ 40) : chk ⟨8, 0, mkS [], [], ts⟩ = fe txtW ts := by
  have ho : ownB ⟨8, 0, mkS [], [], ts⟩ = true := by
    unfold ownB
    exact decide_eq_true ⟨fun _ => rfl, fun _ => no_text, fun _ => rfl, fun h => absurd rfl h⟩
  rw [chk_el (gk_yes (by show (1 : Int) ≤ 8 ∧ (8 : Int) ≤ 8; decide)) ho (by simp; omega), el_eight (v := ⟨8, 0, mkS [], [], ts⟩) rfl rfl]
theorem v22_chk : chk v22 = 0 := by
  unfold v22
  rw [chk_texts (by decide)]
  decide
theorem v22_pr : chk v22 = 0 ∧ mkS (printV v22).1 = s22 ∧ (printV v22).2 = 0 := ⟨v22_chk, by rw [printV_ok v22_chk]; kernel_rfl, by rw [printV_ok v22_chk]⟩
theorem i22 : parseV [105, 58, 45, 55] = (⟨2, -7, mkS [], [], []⟩, 0) := by
  have h1 : cutK [105, 58, 45, 55] = (2, [45, 55], 0) := by kernel_rfl
  have h2 : readV 2 [45, 55] = (⟨2, -7, mkS [], [], []⟩, 0) := by
    rw [readV_num (by decide)]
    have h3 : numR 2 [45, 55] = (-7, 0) := by
      unfold numR
      rw [if_pos rfl]
      decide
    rw [h3]
  rw [parseV_at h1, h2, if_pos rfl, if_pos (by rw [chk_num (by decide) (by decide)]; decide)]
theorem b22 : parseV [105, 91, 93, 58, 49] = (noneV, 220) := by
  have h1 : cutK [105, 91, 93, 58, 49] = (6, [49], 0) := by kernel_rfl
  have h2 : (readV 6 [49]).2 = 220 := by
    rw [readV_nums (by decide) (by decide), readN_bad _ (by decide) (by decide)]
  rw [parseV_at h1, h2, if_neg (by decide)]
set_option maxRecDepth 100000 in
set_option maxHeartbeats 1000000 in
theorem speaks22_any (w : World) (hW : CeW w) : Calls Tryz.prog 9 #[] w fun e w' => e = .returned (.bool true) ∧ Below w.heap.size w w' := by
  obtain ⟨W1, hW1⟩ : ∃ z, z = w.alloc (.cells #[.string ⟨#[97, 59, 98]⟩, .string ⟨#[92]⟩, .string ⟨#[]⟩] 9) := ⟨_, rfl⟩
  have b1 : Below w.heap.size w W1 := by rw [hW1]; exact (Below.refl _ _).alloc (Nat.le_refl _) _
  have z1 : W1.heap.size = w.heap.size + 1 := by rw [hW1]; simp
  have r1 : RL svl W1 (w.heap.size + 1) (some ⟨w.heap.size, 0, none⟩) ts22 := by rw [hW1]; exact RL.litC w _ ts22 _ rfl (fun x _ => svl_ok x) (by decide)
  have HP := Lib.hid (Print_any v22 (vagg v22 none 0 (some ⟨w.heap.size, 0, none⟩) 3) (w.heap.size + 1) W1 (hW.below b1 (Nat.le_refl _)) ⟨none, 0, _, 3, rfl, RL.empty _ _ _ _, r1, v22_ok⟩ (by omega))
  unfold PrPost at HP
  rw [v22_pr.2.1, v22_pr.2.2] at HP
  have HP2 : Hid (Calls Tryz.prog 11 #[.agg #[.int .i64 8, .int .i64 0, .string ⟨#[]⟩, .slice none 0 0, .slice (some ⟨w.heap.size, 0, none⟩) 3 3]] W1 fun e w' => e = .returned (.tuple #[.string s22, .int .i64 0]) ∧ Below W1.heap.size W1 w') := HP
  unfold s22 at HP2
  have HQ1 : Hid (∀ w', Below w.heap.size w w' → Calls Tryz.prog 14 #[.string ⟨#[105, 58, 45, 55]⟩] w' fun e w2 => ∃ A c A' c', e = .returned (.tuple #[.agg #[.int .i64 2, .int .i64 (-7), .string ⟨#[]⟩, .slice A 0 c, .slice A' 0 c'], .int .i64 0]) ∧ Below w'.heap.size w' w2) := Lib.hid fun w' hb => by
    have h := Parse_any [105, 58, 45, 55] w' (hW.below hb (Nat.le_refl _)) (by decide)
    rw [i22] at h
    exact h.mono fun e w2 ⟨A, c, A', c', he, hs⟩ => ⟨A, c, A', c', he, hs.bel⟩
  have HQ2 : Hid (∀ w', Below w.heap.size w w' → Calls Tryz.prog 14 #[.string ⟨#[105, 91, 93, 58, 49]⟩] w' fun e w2 => ∃ A c A' c', e = .returned (.tuple #[.agg #[.int .i64 0, .int .i64 0, .string ⟨#[]⟩, .slice A 0 c, .slice A' 0 c'], .int .i64 220]) ∧ Below w'.heap.size w' w2) := Lib.hid fun w' hb => by
    have h := Parse_any [105, 91, 93, 58, 49] w' (hW.below hb (Nat.le_refl _)) (by decide)
    rw [b22] at h
    exact h.mono fun e w2 ⟨A, c, A', c', he, hs⟩ => ⟨A, c, A', c', he, hs.bel⟩
  clear r1 HP z1 hW
  go_enter Tryz.func9, Tryz.ntmps9
  go_wp2_with fail
  rw [← hW1]
  clear hW1
  refine HP2.out.mono ?_
  rintro e w1 ⟨rfl, hb1⟩
  have HB1 := Lib.hid (b1.trans (hb1.mono b1.size))
  clear hb1 b1 HP2
  go_wp2_with fail
  refine (HQ1.out _ HB1.out).mono ?_
  rintro e w2 ⟨A, c, A', c', rfl, hb2⟩
  have HB2 := Lib.hid (HB1.out.trans (hb2.mono HB1.out.size))
  clear hb2 HQ1
  go_wp2_with fail
  obtain ⟨wo, hwo⟩ : ∃ x, x = w2.alloc (.cells #[.int .i64 2, .int .i64 (-7), .string ⟨#[]⟩, .slice A 0 c, .slice A' 0 c'] 25) := ⟨_, rfl⟩
  rw [← hwo]
  have HBo : Hid (Blk wo w2.heap.size 25 #[.int .i64 2, .int .i64 (-7), .string ⟨#[]⟩, .slice A 0 c, .slice A' 0 c']) := Lib.hid (by rw [hwo]; exact Blk.new _ _ _)
  have hbo : Below w2.heap.size w2 wo := by rw [hwo]; exact (Below.refl w2.heap.size w2).alloc (Nat.le_refl _) _
  have HB3 := Lib.hid (HB2.out.trans (hbo.mono HB2.out.size))
  clear hbo
  clear hwo
  refine (HQ2.out _ HB3.out).mono ?_
  rintro e w3 ⟨D, d, D', d', rfl, hb3⟩
  have HB4 := Lib.hid (HB3.out.trans (hb3.mono HB3.out.size))
  have HBo2 := Lib.hid ((HBo.out.below hb3 HBo.out.lt).alloc (.cells #[.int .i64 0, .int .i64 0, .string ⟨#[]⟩, .slice D 0 d, .slice D' 0 d'] 25))
  obtain ⟨c0, c1, c2, c3, c4⟩ := box_cells HBo2.out
  obtain ⟨c5, c6, c7, c8, c9⟩ := box_cells (HBo.out.below hb3 HBo.out.lt)
  clear hb3 HQ2
  go_wp2_with fail
  go_ret
  exact ⟨rfl, HB4.out.alloc HB4.out.size _⟩
end Go.Proofs.YthfoffcfbfmajaaGreatDoor
