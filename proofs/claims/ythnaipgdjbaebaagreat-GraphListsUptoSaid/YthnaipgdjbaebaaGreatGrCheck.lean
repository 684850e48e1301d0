/- The program's Check. -/
import Derived.Test.YthnaipgdjbaebaaGreatGrWhole
import Derived.Deep.RegionHeld3
namespace Go.Proofs.YthnaipgdjbaebaaGreat
open Go.RowKit Go.Maps
set_option linter.unusedVariables false

theorem cnodes_ok : ∀ (L : List Nv) (p i : Int), (cnodes p i L).1 = 0 → ∀ n ∈ L, n.labels.length ≤ 8 ∧ n.props.length ≤ 16
  | [], _, _, _ => fun n h => by cases h
  | n :: l, p, i, h => by
    simp only [cnodes] at h
    by_cases hz : cnode n p = 0
    · rw [if_pos hz] at h
      intro x hx
      rcases List.mem_cons.1 hx with rfl | hx
      · unfold cnode at hz
        split at hz
        · split at hz
          · rename_i h1 h2
            refine ⟨?_, ?_⟩
            · unfold clabels at h2
              split at h2
              · omega
              · omega
            · unfold cpropsAll at hz
              split at hz
              · omega
              · omega
          · contradiction
        · contradiction
      · exact cnodes_ok l _ _ h x hx
    · rw [if_neg hz] at h
      exact absurd h hz
theorem crels_ok (N : List Nv) : ∀ (L : List Rv) (p i : Int), (crels N p i L).1 = 0 → ∀ r ∈ L, r.props.length ≤ 16
  | [], _, _, _ => fun n h => by cases h
  | r :: l, p, i, h => by
    simp only [crels] at h
    by_cases hz : crel r p N = 0
    · rw [if_pos hz] at h
      intro x hx
      rcases List.mem_cons.1 hx with rfl | hx
      · unfold crel at hz
        split at hz
        · split at hz
          · omega
          · split at hz
            · unfold cpropsAll at hz
              split at hz
              · omega
              · omega
            · omega
        · contradiction
      · exact crels_ok N l _ _ h x hx
    · rw [if_neg hz] at h
      exact absurd h hz
theorem flat_len {α β : Type} (f : α → List β) (b : Nat) : ∀ L : List α, (∀ x ∈ L, (f x).length ≤ b) → (L.flatMap f).length ≤ L.length * b
  | [], _ => by simp
  | x :: l, h => by
    have h1 := h x (by simp)
    have h2 := flat_len f b l fun y hy => h y (by simp [hy])
    simp only [List.flatMap_cons, List.length_append, List.length_cons, Nat.add_mul, Nat.one_mul]
    omega

/-- the first error of a graph, and its place -/
def gcheck (g : Gv) : Int × Int :=
  if (cnodes (-1) 0 g.nodes).1 = 0 then (if (crels g.nodes (-1) 0 g.rels).1 = 0 then (cwhole g, 0) else ((crels g.nodes (-1) 0 g.rels).1, wrap64 ((g.nodes.length : Int) + (crels g.nodes (-1) 0 g.rels).2))) else cnodes (-1) 0 g.nodes

set_option maxRecDepth 100000 in
set_option maxHeartbeats 2000000 in
theorem gCheck_any (g : Gv) (A A' : Option Addr) (c c' B : Nat) (w : World) (h : GR w B g A A') (hB : B ≤ w.heap.size) (hids : ∀ x ∈ g.nodes, i64ok x.id) :
    Calls Tryz.prog 19 #[.agg #[.slice A g.nodes.length c, .slice A' g.rels.length c']] w fun e w' => e = .returned (.tuple #[.int .i64 (gcheck g).1, .int .i64 (gcheck g).2]) ∧ Below w.heap.size w w' := by
  obtain ⟨wo, hwo⟩ : ∃ x, x = w.alloc (.cells #[.slice A g.nodes.length c, .slice A' g.rels.length c'] 27) := ⟨_, rfl⟩
  have hbo : Below w.heap.size w wo := by rw [hwo]; exact (Below.refl _ _).alloc (Nat.le_refl _) _
  have hbk : Blk wo w.heap.size 27 #[.slice A g.nodes.length c, .slice A' g.rels.length c'] := by rw [hwo]; exact Blk.new _ _ _
  have HN := checkNodes_any A c B g.nodes wo ((h.below (hbo.mono hB)).1) (Nat.le_trans hB hbo.size) h.2.2.1
  have Hwo := Lib.hid hwo
  have H := Lib.hid h
  have g0 : wo.cell? ⟨w.heap.size, 0, none⟩ = some (.slice A g.nodes.length c) := by rw [hbk.cell 0]; rfl
  have g1 : wo.cell? ⟨w.heap.size, 1, none⟩ = some (.slice A' g.rels.length c') := by rw [hbk.cell 1]; rfl
  have hgl := h.2.2.1
  have hos := hbk.lt
  clear hwo h
  by_cases hz : (cnodes (-1) 0 g.nodes).1 = 0
  · have HC : Hid (gcheck g = if (crels g.nodes (-1) 0 g.rels).1 = 0 then (cwhole g, 0) else ((crels g.nodes (-1) 0 g.rels).1, wrap64 ((g.nodes.length : Int) + (crels g.nodes (-1) 0 g.rels).2))) := Lib.hid (by unfold gcheck; rw [if_pos hz])
    have Hok := Lib.hid (cnodes_ok g.nodes _ _ hz)
    obtain ⟨y, hy⟩ : ∃ y, y = (cnodes (-1) 0 g.nodes).2 := ⟨_, rfl⟩
    rw [hz, ← hy] at HN
    have HN := Lib.hid HN
    clear hz hy
    go_enter Tryz.func19, Tryz.ntmps19
    go_wp2_with fail
    rw [← Hwo.out]
    refine HN.out.mono ?_
    rintro e w2 ⟨rfl, hb2⟩
    have hbw2 := hbo.trans (hb2.mono hbo.size)
    have hbk2 := hbk.below hb2 hos
    clear g0 g1 hb2 hbk
    have g0 : w2.cell? ⟨w.heap.size, 0, none⟩ = some (.slice A g.nodes.length c) := by rw [hbk2.cell 0]; rfl
    have g1 : w2.cell? ⟨w.heap.size, 1, none⟩ = some (.slice A' g.rels.length c') := by rw [hbk2.cell 1]; rfl
    have hs2 := hbw2.size
    have hlt2 := hbk2.lt
    have HI := Lib.hid (nodeIds_any A c B g.nodes w2.drew ((H.out.below (hbw2.mono hB)).1) (Nat.le_trans hB hs2) hgl)
    have HR : Hid (∀ w3, Below w2.heap.size w2 w3 → w3.ownsMap Tryz.prog 3 (unitElem (H := Unit)) w2.heap.size g.nodes.length (idSet g.nodes) → Calls Tryz.prog 38 #[.slice A' g.rels.length c', .map (some w2.heap.size)] w3 fun e w' => e = .returned (.tuple #[.int .i64 (crels g.nodes (-1) 0 g.rels).1, .int .i64 (crels g.nodes (-1) 0 g.rels).2]) ∧ Below w3.heap.size w3 w') := Lib.hid fun w3 hb3 hm => by
      have hb := hbw2.trans (hb3.mono hs2)
      exact checkRels_any A' c' B g.rels w3 ((H.out.below (hb.mono hB)).2.1) (Nat.le_trans hB hb.size) H.out.2.2.2 g.nodes w2.heap.size g.nodes.length hm hids
    have HW : Hid (∀ w4, Below w.heap.size w w4 → (crels g.nodes (-1) 0 g.rels).1 = 0 → Calls Tryz.prog 40 #[.agg #[.slice A g.nodes.length c, .slice A' g.rels.length c']] w4 fun e w' => e = .returned (.int .i64 (cwhole g)) ∧ Below w4.heap.size w4 w') := Lib.hid fun w4 hb4 hz => by
      have f1 := flat_len (fun n : Nv => n.labels) 8 g.nodes fun n hn => (Hok.out n hn).1
      have f2 := flat_len (fun n : Nv => n.props) 16 g.nodes fun n hn => (Hok.out n hn).2
      have f3 := flat_len (fun r : Rv => r.props) 16 g.rels (crels_ok g.nodes g.rels _ _ hz)
      have k2 := H.out.2.2.2
      exact checkWhole_any g A A' c c' B w4 (H.out.below (hb4.mono hB)) (Nat.le_trans hB hb4.size) (by unfold labelsOf; omega) (by unfold gprops; rw [List.length_append]; omega)
    obtain ⟨x, hx⟩ : ∃ x, x = crels g.nodes (-1) 0 g.rels := ⟨_, rfl⟩
    rw [← hx] at HC HR HW
    obtain ⟨x1, x2⟩ := x
    simp only at HC HR HW
    clear hx hids
    go_wp2
    go_region_held3 (fun w' => w'.cell? ⟨w.heap.size, 0, none⟩ = some (.slice A g.nodes.length c) ∧ w'.cell? ⟨w.heap.size, 1, none⟩ = some (.slice A' g.rels.length c')) (go_keep)
      ((first
        | (go_at_call 39; refine HI.out.mono ?_; rintro e w3 ⟨rfl, hm3, hb3⟩; have hb3' := Lib.hid (show Below w2.heap.size w2 w3 from ⟨hb3.os, hb3.tape, hb3.output, hb3.size, hb3.block⟩); have k0 := (hb3.cell (p := ⟨w.heap.size, 0, none⟩) hlt2).trans g0; have k1 := (hb3.cell (p := ⟨w.heap.size, 1, none⟩) hlt2).trans g1; have HR3 := Lib.hid (HR.out w3 hb3'.out hm3); clear hm3 hb3)
        | (go_at_call 38; refine HR3.out.mono ?_; rintro e w4 ⟨rfl, hb4⟩; have hb4' := Lib.hid (hb3'.out.trans (hb4.mono hb3'.out.size)); have j0 := (hb4'.out.cell (p := ⟨w.heap.size, 0, none⟩) hlt2).trans g0; have j1 := (hb4'.out.cell (p := ⟨w.heap.size, 1, none⟩) hlt2).trans g1; clear hb4)))
    have hbw4 := hbw2.trans (hb4'.out.mono hs2)
    by_cases hz1 : x1 = 0
    · subst hz1
      have HW4 := Lib.hid (HW.out w4 hbw4 rfl)
      go_wp2_with fail
      refine HW4.out.mono ?_
      rintro e w5 ⟨rfl, hb5⟩
      have hbw5 := hbw4.trans (hb5.mono hbw4.size)
      clear j0 j1 hb5
      go_wp2
      go_ret2
      exact ⟨by rw [HC.out]; rfl, hbw5⟩
    · have hne : (x1 != 0) = true := by simpa using hz1
      have HC2 : Hid (gcheck g = (x1, wrap64 ((g.nodes.length : Int) + x2))) := Lib.hid (by rw [HC.out, if_neg hz1])
      clear hz1
      go_wp2
      go_quiet (fail)
      go_wp2
      go_ret2
      exact ⟨by rw [HC2.out]; rfl, below_drewN hbw4 _⟩
  · have HC : Hid (gcheck g = cnodes (-1) 0 g.nodes) := Lib.hid (by unfold gcheck; rw [if_neg hz])
    obtain ⟨x, hx⟩ : ∃ x, x = cnodes (-1) 0 g.nodes := ⟨_, rfl⟩
    rw [← hx] at hz HN HC
    obtain ⟨x1, x2⟩ := x
    simp only at hz HN
    have hne : (x1 != 0) = true := by simpa using hz
    have HN := Lib.hid HN
    clear hz hx
    go_enter Tryz.func19, Tryz.ntmps19
    go_wp2_with fail
    rw [← Hwo.out]
    refine HN.out.mono ?_
    rintro e w2 ⟨rfl, hb2⟩
    have hbw2 := hbo.trans (hb2.mono hbo.size)
    clear g0 g1 hb2
    go_wp2
    go_ret2
    exact ⟨by rw [HC.out]; rfl, hbw2⟩

end Go.Proofs.YthnaipgdjbaebaaGreat
