/- The program's Same. -/
import Derived.Test.YtdfpmolkkbplpaaGreatGrSameN
import Derived.Test.YtdfpmolkkbplpaaGreatGrSameR
namespace Go.Proofs.YtdfpmolkkbplpaaGreat
open Go.RowKit
set_option linter.unusedVariables false

set_option maxRecDepth 100000 in
set_option maxHeartbeats 1000000 in
theorem gSame_any (g h : Gv) (A A' : Option Addr) (c c' : Nat) (D D' : Option Addr) (d d' : Nat) (B : Nat) (w : World) (hg : GR w B g A A') (hh : GR w B h D D') (hB : B ≤ w.heap.size) :
    Calls Tryz.prog 24 #[gagg g A c A' c', gagg h D d D' d'] w (Says (sameG g h) w) := by
  obtain ⟨G1, G2, l1, l2⟩ := hg
  obtain ⟨K1, K2, m1, m2⟩ := hh
  simp only [gagg]
  obtain ⟨wo, hwo⟩ : ∃ z, z = (w.alloc (.cells #[.slice A g.nodes.length c, .slice A' g.rels.length c'] 27)).alloc (.cells #[.slice D h.nodes.length d, .slice D' h.rels.length d'] 27) := ⟨_, rfl⟩
  have hbo : Below w.heap.size w wo := by rw [hwo]; exact ((Below.refl _ _).alloc (Nat.le_refl _) _).alloc (by simp) _
  have Bx : Blk wo w.heap.size 27 #[.slice A g.nodes.length c, .slice A' g.rels.length c'] := by subst hwo; exact (Blk.new _ _ _).alloc _
  have By : Blk wo (w.heap.size + 1) 27 #[.slice D h.nodes.length d, .slice D' h.rels.length d'] := by
    subst hwo
    have := Blk.new (w.alloc (.cells #[.slice A g.nodes.length c, .slice A' g.rels.length c'] 27)) 27 #[.slice D h.nodes.length d, .slice D' h.rels.length d']
    simpa using this
  have hb1 : Below B w wo := hbo.mono hB
  have HN := eqNodes_any A D c d B g.nodes h.nodes wo (NodesR.below G1 hb1) (NodesR.below K1 hb1) (by have := hbo.size; omega) l1 m1
  have HR : Hid (∀ w2, Below w.heap.size w w2 → Calls Tryz.prog 50 #[.slice A' g.rels.length c', .slice D' h.rels.length d', .func (.func 51) #[] #[]] w2 (Says (eqF sameR g.rels h.rels) w2)) := Lib.hid fun w2 hb => eqRels_any A' D' c' d' B g.rels h.rels w2 (RelsR.below G2 (hb.mono hB)) (RelsR.below K2 (hb.mono hB)) (by have := hb.size; omega) l2 m2
  obtain ⟨E, hE⟩ : ∃ E, E = eqF sameN g.nodes h.nodes := ⟨_, rfl⟩
  obtain ⟨E2, hE2⟩ : ∃ E, E = eqF sameR g.rels h.rels := ⟨_, rfl⟩
  rw [← hE] at HN
  rw [← hE2] at HR
  have Hr : Hid (sameG g h = (E && E2)) := Lib.hid (by rw [hE, hE2]; rfl)
  have HN := Lib.hid HN
  have Hwo := Lib.hid hwo
  have hlt1 := Bx.lt
  have hlt2 := By.lt
  have q1 : wo.cell? ⟨w.heap.size, 1, none⟩ = some (.slice A' g.rels.length c') := by rw [Bx.cell 1]; rfl
  have s1 : wo.cell? ⟨w.heap.size + 1, 1, none⟩ = some (.slice D' h.rels.length d') := by rw [By.cell 1]; rfl
  clear G1 G2 K1 K2 hwo hb1 hE hE2 Bx By
  go_enter Tryz.func24, Tryz.ntmps24
  go_wp2_with fail
  rw [← Hwo.out]
  refine HN.out.mono ?_
  rintro e w8 ⟨rfl, hb8⟩
  have hb9 := hbo.trans (hb8.mono hbo.size)
  have k1 := (hb8.cell (p := ⟨w.heap.size, 1, none⟩) hlt1).trans q1
  have j1 := (hb8.cell (p := ⟨w.heap.size + 1, 1, none⟩) hlt2).trans s1
  clear hb8
  cases E
  · go_wp2
    go_ret
    exact ⟨ret_bool Hr.out.symm, hb9⟩
  · go_wp2_with fail
    refine (HR.out w8 hb9).mono ?_
    rintro e w9 ⟨rfl, hb10⟩
    have hb11 := hb9.trans (hb10.mono hb9.size)
    clear hb10 k1 j1
    go_wp2
    go_ret
    exact ⟨ret_bool Hr.out.symm, hb11⟩

end Go.Proofs.YtdfpmolkkbplpaaGreat
