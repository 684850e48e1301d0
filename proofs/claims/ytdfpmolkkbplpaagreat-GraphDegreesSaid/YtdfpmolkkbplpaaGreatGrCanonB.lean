/- The program's Canon of a graph of one node and one relationship, each without lists, whole. -/
import Derived.Test.YtdfpmolkkbplpaaGreatGrCanonA
namespace Go.Proofs.YtdfpmolkkbplpaaGreat
open Go.RowKit
set_option linter.unusedVariables false

set_option maxRecDepth 100000 in
set_option maxHeartbeats 2000000 in
theorem gCanon_one (n i a b : Int) (s : ByteArray) (g c g' c' : Nat) (w : World) (hn : Blk w g 40 #[.int .i64 n, .slice none 0 0, .slice none 0 0]) (hr : Blk w g' 47 #[.int .i64 i, .string s, .int .i64 a, .int .i64 b, .slice none 0 0]) :
    Calls Tryz.prog 22 #[.agg #[.slice (some ⟨g, 0, none⟩) 1 c, .slice (some ⟨g', 0, none⟩) 1 c']] w fun e w' => ∃ A c A' c', e = .returned (.agg #[.slice A 1 c, .slice A' 1 c']) ∧ Below w.heap.size w w' := by
  obtain ⟨wo, hwo⟩ : ∃ x, x = (w.alloc (.cells #[.slice (some ⟨g, 0, none⟩) 1 c, .slice (some ⟨g', 0, none⟩) 1 c'] 27)).alloc (.cells #[.slice none 0 0, .slice none 0 0] 27) := ⟨_, rfl⟩
  have hbo : Below w.heap.size w wo := by rw [hwo]; exact ((Below.refl _ _).alloc (Nat.le_refl _) _).alloc (by simp) _
  have B0 : Blk wo w.heap.size 27 #[.slice (some ⟨g, 0, none⟩) 1 c, .slice (some ⟨g', 0, none⟩) 1 c'] := by subst hwo; exact (Blk.new _ _ _).alloc _
  have B1 : Blk wo (w.heap.size + 1) 27 #[.slice none 0 0, .slice none 0 0] := by
    subst hwo
    have := Blk.new (w.alloc (.cells #[.slice (some ⟨g, 0, none⟩) 1 c, .slice (some ⟨g', 0, none⟩) 1 c'] 27)) 27 #[.slice none 0 0, .slice none 0 0]
    simpa using this
  have B2 := hn.below hbo hn.lt
  have B3 := hr.below hbo hr.lt
  have hl0 := B0.lt
  have hl1 := B1.lt
  have hl2 := B2.lt
  have hl3 := B3.lt
  have HN : Hid (∀ w', Below wo.heap.size wo w' → Calls Tryz.prog 44 #[.slice (some ⟨g, 0, none⟩) 1 c] w' fun e w'' => ∃ A cap, e = .returned (.slice A 1 cap) ∧ Below wo.heap.size wo w'') := Lib.hid fun w' hb => (canonNodes_one n g c w' (B2.below hb hl2)).mono fun e w'' ⟨A, cap, h1, h2⟩ => ⟨A, cap, h1, hb.trans (h2.mono hb.size)⟩
  have HR : Hid (∀ w', Below wo.heap.size wo w' → Calls Tryz.prog 45 #[.slice (some ⟨g', 0, none⟩) 1 c'] w' fun e w'' => ∃ A cap, e = .returned (.slice A 1 cap) ∧ Below wo.heap.size wo w'') := Lib.hid fun w' hb => (canonRels_one i a b s g' c' w' (B3.below hb hl3)).mono fun e w'' ⟨A, cap, h1, h2⟩ => ⟨A, cap, h1, hb.trans (h2.mono hb.size)⟩
  have HF : Hid (∀ w', Below wo.heap.size wo w' → w'.cell? ⟨w.heap.size, 0, none⟩ = some (.slice (some ⟨g, 0, none⟩) 1 c) ∧ w'.cell? ⟨w.heap.size, 1, none⟩ = some (.slice (some ⟨g', 0, none⟩) 1 c') ∧ w'.cell? ⟨w.heap.size + 1, 0, none⟩ = some (.slice none 0 0) ∧ w'.cell? ⟨w.heap.size + 1, 1, none⟩ = some (.slice none 0 0) ∧ w'.frozen? ⟨w.heap.size + 1, 0, none⟩ = false ∧ w'.frozen? ⟨w.heap.size + 1, 1, none⟩ = false) := Lib.hid fun w' hb => by
    have b0 := B0.below hb hl0
    have b1 := B1.below hb hl1
    exact ⟨by rw [b0.cell]; rfl, by rw [b0.cell]; rfl, by rw [b1.cell]; rfl, by rw [b1.cell]; rfl, b1.frozen 0, b1.frozen 1⟩
  have HK : Hid (∀ w', Below wo.heap.size wo w' → Blk w' (w.heap.size + 1) 27 #[.slice none 0 0, .slice none 0 0]) := Lib.hid fun w' hb => B1.below hb hl1
  have HB : Hid (∀ w', Below wo.heap.size wo w' → Below w.heap.size w w') := Lib.hid fun w' hb => hbo.trans (hb.mono hbo.size)
  have hb0 : Below wo.heap.size wo wo.drew := ⟨rfl, rfl, rfl, Nat.le_refl _, fun _ _ => rfl⟩
  obtain ⟨c0, c1, c2, c3, f0, f1⟩ := HF.out wo (Below.refl _ _)
  have Hwo := Lib.hid hwo
  clear hwo B0 B1 B2 B3 hl2 hl3 hn hr hbo
  go_enter Tryz.func22, Tryz.ntmps22
  go_wp2
  rw [← Hwo.out]
  go_region_held3 (fun w' => w'.cell? ⟨w.heap.size, 0, none⟩ = some (.slice (some ⟨g, 0, none⟩) 1 c) ∧ w'.cell? ⟨w.heap.size, 1, none⟩ = some (.slice (some ⟨g', 0, none⟩) 1 c')) (go_keep)
    ((first
      | (go_at_call 44; refine (HN.out _ (by first | exact hb0 | exact hbR)).mono ?_; rintro e w3 ⟨A3, p3, rfl, hbN⟩; have kN := HF.out _ hbN; obtain ⟨_, _, _, _, _, _⟩ := kN)
      | (go_at_call 45; refine (HR.out _ (by first | exact hb0 | exact hbN)).mono ?_; rintro e w4 ⟨A4, p4, rfl, hbR⟩; have kR := HF.out _ hbR; obtain ⟨_, _, _, _, _, _⟩ := kR)))
  have hbl := HB.out _ hbR
  have hbk := ((HK.out _ hbR).set_ 0 (.slice A3 1 p3)).set_ 1 (.slice A4 1 p4)
  go_wp2
  try simp only [Exit.inBlock, Exit.then]
  refine bodyPost_ret (results_cell_row rfl _ _ (w.heap.size + 1) 27 #[.slice A3 1 p3, .slice A4 1 p4] (0, 0) _ rfl hbk Tryz.underlying27 rfl (by kernel_rfl)) rfl ?_
  exact ⟨_, _, _, _, rfl, (hbl.setCell (p := ⟨w.heap.size + 1, 0, none⟩) (by simp) _).setCell (p := ⟨w.heap.size + 1, 1, none⟩) (by simp) _⟩

end Go.Proofs.YtdfpmolkkbplpaaGreat
