/- The program's check of a list of relationships. -/
import Derived.Test.YtdfpmolkkbplpaaGreatGrRel
namespace Go.Proofs.YtdfpmolkkbplpaaGreat
open Go.RowKit Go.Maps
set_option linter.unusedVariables false

theorem dropR {L : List Rv} {k : Nat} (h : k < L.length) : L.drop k = nthR L k :: L.drop (k + 1) := by
  have := nthR_get h
  rw [List.getElem?_eq_getElem h] at this
  injection this with this
  rw [List.drop_eq_getElem_cons h, this]
/-- the first error of a list of relationships, and its place -/
def crels (N : List Nv) (prev : Int) (i : Int) : List Rv → Int × Int
  | [] => (0, 0)
  | r :: l => if crel r prev N = 0 then crels N r.id (i + 1) l else (crel r prev N, i)
theorem ownsMap_block {P : Program} {k : TypeId} {R : Value → Option (DataW Unit × List MemPlace)} {w w' : World} {b n : Nat} {D : DataW Unit} (h : w.ownsMap P k R b n D) (hb : w'.heap[b]? = w.heap[b]?) : w'.ownsMap P k R b n D := by
  obtain ⟨es, clock, h1, h2⟩ := h
  exact ⟨es, clock, hb.trans h1, h2⟩
theorem ownsMap_below {P : Program} {k : TypeId} {R : Value → Option (DataW Unit × List MemPlace)} {w w' : World} {b n : Nat} {D : DataW Unit} (h : w.ownsMap P k R b n D) (hb : Below w.heap.size w w') : w'.ownsMap P k R b n D := ownsMap_block h (hb.block b h.lt)

set_option maxRecDepth 100000 in
set_option maxHeartbeats 1000000 in
theorem checkRels_any (A : Option Addr) (cap B : Nat) (L : List Rv) (w : World) (h : RelsR w B A L) (hB : B ≤ w.heap.size) (hl : L.length ≤ 140737488351232) (N : List Nv) (mb n : Nat) (hm : w.ownsMap Tryz.prog 3 unitElem mb n (idSet N)) (hN : ∀ x ∈ N, i64ok x.id) :
    Calls Tryz.prog 38 #[.slice A L.length cap, .map (some mb)] w fun e w' => e = .returned (.tuple #[.int .i64 (crels N (-1) 0 L).1, .int .i64 (crels N (-1) 0 L).2]) ∧ Below w.heap.size w w' := by
  have H := Lib.hid h
  have HM := Lib.hid hm
  have HN' := Lib.hid hN
  clear h hm hN
  go_enter Tryz.func38, Tryz.ntmps38
  go_wp2
  go_loopw [6, 12] (fun pv i wr => ∃ (k : Nat) (p : Int), k ≤ L.length ∧ i = .int .i64 k ∧ pv = .int .i64 p ∧ crels N p k (L.drop k) = crels N (-1) 0 L ∧ Below w.heap.size w wr) (fun _ i _ => L.length - (intOf i).toNat)
  case atStart => exact ⟨0, -1, Nat.zero_le _, rfl, rfl, rfl, Below.refl _ _⟩
  case round =>
    obtain ⟨k, p, hk, rfl, rfl, hcn, hbw⟩ := hrel
    by_cases hlt : k < L.length
    · obtain ⟨b, off, rfl, hbB, A1, c1, hc, hr1, hi, hs, hd, ht, hp⟩ := (RelsR.below H.out (hbw.mono hB)) k _ (nthR_get hlt)
      obtain ⟨q0, q1, q2, q3, q4⟩ := rel_cells hc
      have hsz := hbw.size
      rw [dropR hlt] at hcn
      obtain ⟨wo, hwo⟩ : ∃ x, x = wr.alloc (.cells #[.int .i64 (nthR L k).id, .string (nthR L k).typ, .int .i64 (nthR L k).src, .int .i64 (nthR L k).dst, .slice A1 (nthR L k).props.length c1] 47) := ⟨_, rfl⟩
      have hbo : Below w.heap.size w wo := by rw [hwo]; exact hbw.alloc hsz _
      have hbr : Below wr.heap.size wr wo := by rw [hwo]; exact (Below.refl _ _).alloc (Nat.le_refl _) _
      have hos : wr.heap.size < wo.heap.size := by rw [hwo]; simp
      have hbk : Blk wo wr.heap.size 47 #[.int .i64 (nthR L k).id, .string (nthR L k).typ, .int .i64 (nthR L k).src, .int .i64 (nthR L k).dst, .slice A1 (nthR L k).props.length c1] := by rw [hwo]; exact Blk.new _ _ _
      have HN := checkRel_any (nthR L k) A1 c1 B p N mb n wo (PropsR.below hr1 (hbr.mono (by omega))) (by omega) hi hs hd ht hp (ownsMap_below HM.out hbo) HN'.out
      generalize nthR L k = x at *
      obtain ⟨xi, xt, xs, xd, xp⟩ := x
      simp only at q0 q1 q2 q3 q4 hbk HN hwo
      simp only [crels] at hcn
      have g0 : wo.cell? ⟨wr.heap.size, 0, none⟩ = some (.int .i64 xi) := by rw [hbk.cell 0]; rfl
      have g1 : wo.cell? ⟨wr.heap.size, 1, none⟩ = some (.string xt) := by rw [hbk.cell 1]; rfl
      have g2 : wo.cell? ⟨wr.heap.size, 2, none⟩ = some (.int .i64 xs) := by rw [hbk.cell 2]; rfl
      have g3 : wo.cell? ⟨wr.heap.size, 3, none⟩ = some (.int .i64 xd) := by rw [hbk.cell 3]; rfl
      have g4 : wo.cell? ⟨wr.heap.size, 4, none⟩ = some (.slice A1 xp.length c1) := by rw [hbk.cell 4]; rfl
      have Hwo := Lib.hid hwo
      clear hc hr1 hi hs hd ht hwo hbr hbk
      by_cases hz : crel ⟨xi, xt, xs, xd, xp⟩ p N = 0
      · rw [if_pos hz] at hcn
        rw [hz] at HN
        have HN := Lib.hid HN
        have Hcn := Lib.hid hcn
        clear hcn hz
        go_wp2_with fail
        rw [← Hwo.out]
        refine HN.out.mono ?_
        rintro e w8 ⟨rfl, hb8⟩
        have k0 : w8.cell? ⟨wr.heap.size, 0, none⟩ = some (.int .i64 xi) := (hb8.cell (p := ⟨wr.heap.size, 0, none⟩) hos).trans g0
        have hb9 := hbo.trans (hb8.mono hbo.size)
        clear g0 g1 g2 g3 g4 hb8
        go_wp2
        go_roundw
        case rel => exact ⟨k + 1, xi, by omega, by go_num, rfl, Hcn.out, hb9⟩
        case measure => simp [intOf]; omega
      · rw [if_neg hz] at hcn
        obtain ⟨c, hcc⟩ : ∃ c, c = crel ⟨xi, xt, xs, xd, xp⟩ p N := ⟨_, rfl⟩
        rw [← hcc] at hz hcn HN
        have HN := Lib.hid HN
        have Hcn := Lib.hid hcn
        have hne : (c != 0) = true := by simpa using hz
        clear hcn hz hcc
        go_wp2_with fail
        rw [← Hwo.out]
        refine HN.out.mono ?_
        rintro e w8 ⟨rfl, hb8⟩
        have hb9 := hbo.trans (hb8.mono hbo.size)
        clear g0 g1 g2 g3 g4 hb8
        go_wp2
        go_ret2
        exact ⟨by rw [← Hcn.out]; rfl, hb9⟩
    · rw [List.drop_of_length_le (by omega)] at hcn
      have Hcn := Lib.hid hcn
      clear hcn
      go_wp2
      go_ret2
      exact ⟨by rw [← Hcn.out]; rfl, hbw⟩

end Go.Proofs.YtdfpmolkkbplpaaGreat
