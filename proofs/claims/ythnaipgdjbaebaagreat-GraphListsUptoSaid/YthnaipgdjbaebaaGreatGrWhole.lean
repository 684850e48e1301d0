/- The program's check of what no single node or relationship has; Check. -/
import Derived.Test.YthnaipgdjbaebaaGreatGrEls
namespace Go.Proofs.YthnaipgdjbaebaaGreat
open Go.RowKit Go.Maps
set_option linter.unusedVariables false

/-- how many texts there are, each counted once -/
def nameCount (L : List ByteArray) : Nat := Maps.size (nameSet L)
/-- the names of a sort -/
def gnames (g : Gv) : Nat → List ByteArray
  | 1 => labelsOf g.nodes
  | 2 => typesOf g.rels
  | _ => (gprops g).map (·.key)
def cwhole (g : Gv) : Int := if 200 < nameCount (gnames g 1) ∨ 200 < nameCount (gnames g 2) ∨ 200 < nameCount (gnames g 3) then 66 else if 262144 < weightP (gprops g) then 67 else 0
theorem GNames_any (g : Gv) (A A' : Option Addr) (c c' B : Nat) (w : World) (h : GR w B g A A') (hB : B ≤ w.heap.size) (h1 : (labelsOf g.nodes).length ≤ 1152921504606846976) (h3 : (gprops g).length ≤ 1152921504606846976) :
    ∀ k : Nat, k = 1 ∨ k = 2 ∨ k = 3 → Calls Tryz.prog 56 #[.agg #[.slice A g.nodes.length c, .slice A' g.rels.length c'], .int .i64 (k : Int)] w (NamesPost (gnames g k) w) := by
  rintro k (rfl | rfl | rfl)
  · exact names1_any A A' g.rels.length c c' B g.nodes w h.1 hB h.2.2.1 h1
  · exact names2_any A A' g.nodes.length c c' B g.rels w h.2.1 hB h.2.2.2
  · exact GKeys_any g A A' c c' B w h hB h3

set_option maxRecDepth 100000 in
set_option maxHeartbeats 2000000 in
theorem checkWhole_any (g : Gv) (A A' : Option Addr) (c c' B : Nat) (w : World) (h : GR w B g A A') (hB : B ≤ w.heap.size) (h1 : (labelsOf g.nodes).length ≤ 1152921504606846976) (h3 : (gprops g).length ≤ 1152921504606846976) :
    Calls Tryz.prog 40 #[.agg #[.slice A g.nodes.length c, .slice A' g.rels.length c']] w fun e w' => e = .returned (.int .i64 (cwhole g)) ∧ Below w.heap.size w w' := by
  have HN : Hid (∀ w', Below w.heap.size w w' → ∀ k : Nat, k = 1 ∨ k = 2 ∨ k = 3 → Calls Tryz.prog 56 #[.agg #[.slice A g.nodes.length c, .slice A' g.rels.length c'], .int .i64 (k : Int)] w' (NamesPost (gnames g k) w')) := Lib.hid fun w' hb => GNames_any g A A' c c' B w' (h.below (hb.mono hB)) (by have := hb.size; omega) h1 h3
  have HW : Hid (∀ w', Below w.heap.size w w' → Calls Tryz.prog 30 #[.agg #[.slice A g.nodes.length c, .slice A' g.rels.length c']] w' fun e w'' => e = .returned (.int .i64 (weightP (gprops g))) ∧ Below w'.heap.size w' w'') := Lib.hid fun w' hb => GWeight_any g A A' c c' B w' (h.below (hb.mono hB)) (by have := hb.size; omega)
  obtain ⟨nn, hnn⟩ : ∃ n, n = g.nodes.length := ⟨_, rfl⟩
  obtain ⟨nr, hnr⟩ : ∃ n, n = g.rels.length := ⟨_, rfl⟩
  rw [← hnn, ← hnr] at HN HW ⊢
  clear h hnn hnr
  obtain ⟨wo, hwo⟩ : ∃ x, x = w.alloc (.cells #[.slice A nn c, .slice A' nr c'] 27) := ⟨_, rfl⟩
  have hbo : Below w.heap.size w wo := by rw [hwo]; exact (Below.refl _ _).alloc (Nat.le_refl _) _
  have hbk : Blk wo w.heap.size 27 #[.slice A nn c, .slice A' nr c'] := by rw [hwo]; exact Blk.new _ _ _
  have Hwo := Lib.hid hwo
  clear hwo
  go_enter Tryz.func40, Tryz.ntmps40
  go_wp2
  rw [← Hwo.out]
  go_loopw [3] (fun s wr => ∃ k : Nat, 1 ≤ k ∧ k ≤ 4 ∧ s = .int .i64 k ∧ (∀ j, 1 ≤ j → j < k → nameCount (gnames g j) ≤ 200) ∧ Blk wr w.heap.size 27 #[.slice A nn c, .slice A' nr c'] ∧ Below w.heap.size w wr) (fun s _ => 4 - (intOf s).toNat)
  case atStart => exact ⟨1, Nat.le_refl _, by omega, rfl, fun j h1 h2 => by omega, hbk, hbo⟩
  case round =>
    obtain ⟨k, hk1, hk4, rfl, hall, hbk1, hbw⟩ := hrel
    clear hbk hbo
    have Hall := Lib.hid hall
    have g0 : wr.cell? ⟨w.heap.size, 0, none⟩ = some (.slice A nn c) := by rw [hbk1.cell 0]; rfl
    have g1 : wr.cell? ⟨w.heap.size, 1, none⟩ = some (.slice A' nr c') := by rw [hbk1.cell 1]; rfl
    clear hall
    by_cases h4 : k ≤ 3
    · go_wp2_with fail
      refine (HN.out wr hbw k (by omega)).mono ?_
      rintro e w5 ⟨mb, nm, rfl, hown, hb5, hge⟩
      have hbk5 := hbk1.below hb5 hbk1.lt
      have hbw5 := hbw.trans (hb5.mono hbw.size)
      obtain ⟨cnt, hcnt⟩ : ∃ n, n = Maps.size (nameSet (gnames g k)) := ⟨_, rfl⟩
      have Hcnt : Hid (cnt = nameCount (gnames g k)) := Lib.hid hcnt
      have Hc2 := Lib.hid hcnt
      clear hcnt hb5 hbk1 hbw g0 g1
      by_cases hc : 200 < cnt
      · have HC : Hid (cwhole g = 66) := Lib.hid (by
          unfold cwhole
          rw [if_pos]
          rw [Hcnt.out] at hc
          have hk : k = 1 ∨ k = 2 ∨ k = 3 := by omega
          rcases hk with rfl | rfl | rfl
          · exact .inl hc
          · exact .inr (.inl hc)
          · exact .inr (.inr hc))
        go_wp2_with (at_len; refine wpList_len_own _ rfl _ 85 rfl 9 86 Tryz.underlying85 (unitElem (H := Unit)) mb nm _ (by rfl) hown ?_; rw [← Hc2.out])
        go_ret
        exact ⟨ret_int HC.out.symm, hbw5⟩
      · go_wp2_with (at_len; refine wpList_len_own _ rfl _ 85 rfl 9 86 Tryz.underlying85 (unitElem (H := Unit)) mb nm _ (by rfl) hown ?_; rw [← Hc2.out])
        go_roundw
        case rel => exact ⟨k + 1, by omega, by omega, by go_num, fun j h1 h2 => by
          rcases Nat.lt_succ_iff_lt_or_eq.1 h2 with h | rfl
          · exact Hall.out j h1 h
          · rw [← Hcnt.out]; omega, hbk5, hbw5⟩
        case measure => simp [intOf]; omega
    · obtain rfl : k = 4 := by omega
      obtain ⟨x, hx⟩ : ∃ x, x = weightP (gprops g) := ⟨_, rfl⟩
      have HW1 := HW.out wr hbw
      rw [← hx] at HW1
      have HC : Hid (cwhole g = if 262144 < x then 67 else 0) := Lib.hid (by
        unfold cwhole
        have a1 := Hall.out 1 (by omega) (by omega)
        have a2 := Hall.out 2 (by omega) (by omega)
        have a3 := Hall.out 3 (by omega) (by omega)
        rw [if_neg (by omega), ← hx])
      have HW1 := Lib.hid HW1
      clear hx
      by_cases hw : 262144 < x
      · go_wp2_with fail
        refine HW1.out.mono ?_
        rintro e w5 ⟨rfl, hb5⟩
        have hbw5 := hbw.trans (hb5.mono hbw.size)
        clear hb5 g0 g1
        go_wp2
        go_ret
        exact ⟨ret_int (by rw [HC.out, if_pos hw]), hbw5⟩
      · go_wp2_with fail
        refine HW1.out.mono ?_
        rintro e w5 ⟨rfl, hb5⟩
        have hbw5 := hbw.trans (hb5.mono hbw.size)
        clear hb5 g0 g1
        go_wp2
        go_ret
        exact ⟨ret_int (by rw [HC.out, if_neg (by omega)]), hbw5⟩

end Go.Proofs.YthnaipgdjbaebaaGreat
