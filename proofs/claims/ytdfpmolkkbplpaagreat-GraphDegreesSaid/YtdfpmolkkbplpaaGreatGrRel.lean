/- The program's checks of relationships. -/
import Derived.Test.YtdfpmolkkbplpaaGreatGrEnds
namespace Go.Proofs.YtdfpmolkkbplpaaGreat
open Go.RowKit Go.Maps
set_option linter.unusedVariables false

theorem zeroU (w : World) : (zeroValue 86).run Tryz.prog w = .ok (.agg #[]) w := by kernel_rfl

set_option maxRecDepth 100000 in
set_option maxHeartbeats 4000000 in
theorem checkRel_any (r : Rv) (A : Option Addr) (c : Nat) (B : Nat) (prev : Int) (L : List Nv) (mb n : Nat) (w : World) (hP : PropsR w B A r.props) (hB : B ≤ w.heap.size) (hi : i64ok r.id) (hsr : i64ok r.src) (hds : i64ok r.dst)
    (ht : r.typ.size ≤ 140737488351232) (h2 : r.props.length ≤ 140737488351232) (hm : w.ownsMap Tryz.prog 3 unitElem mb n (idSet L)) (hL : ∀ x ∈ L, i64ok x.id) :
    Calls Tryz.prog 63 #[.agg #[.int .i64 r.id, .string r.typ, .int .i64 r.src, .int .i64 r.dst, .slice A r.props.length c], .int .i64 prev, .map (some mb)] w fun e w' => e = .returned (.int .i64 (crel r prev L)) ∧ Below w.heap.size w w' := by
  obtain ⟨rid, rty, rsrc, rdst, rps⟩ := r
  simp only at hP hi hsr hds ht h2 ⊢
  have hh1 := has_idSet L rsrc hL
  have hh2 := has_idSet L rdst hL
  obtain ⟨i1, i2⟩ := hsr
  obtain ⟨i3, i4⟩ := hds
  have hkey1 : keyOf Tryz.prog 3 (.int .i64 rsrc) = some (.int .i64 rsrc) := keyOf_int_mk Tryz.underlying3 (WalkArith.wf_i64 (by omega))
  have hkey2 : keyOf Tryz.prog 3 (.int .i64 rdst) = some (.int .i64 rdst) := keyOf_int_mk Tryz.underlying3 (WalkArith.wf_i64 (by omega))
  obtain ⟨wo, hwo⟩ : ∃ x, x = w.alloc (.cells #[.int .i64 rid, .string rty, .int .i64 rsrc, .int .i64 rdst, .slice A rps.length c] 47) := ⟨_, rfl⟩
  have hbo : Below w.heap.size w wo := by rw [hwo]; exact (Below.refl _ _).alloc (Nat.le_refl _) _
  have hos : w.heap.size < wo.heap.size := by rw [hwo]; simp
  have hmo : wo.ownsMap Tryz.prog 3 unitElem mb n (idSet L) := by rw [hwo]; exact hm.alloc _
  have HI := checkId_any rid prev 2048 62 wo
  have HG := GoodName_any rty wo (by unfold maxLen; omega)
  have hb2 : Below wo.heap.size wo ((wo.alloc (.cells #[] 86)).alloc (.cells #[] 86)) := ((Below.refl _ _).alloc (Nat.le_refl _) _).alloc (by simp) _
  have hbw2 : Below w.heap.size w ((wo.alloc (.cells #[] 86)).alloc (.cells #[] 86)) := hbo.trans (hb2.mono hbo.size)
  have HP := checkProps_any A c B rps ((wo.alloc (.cells #[] 86)).alloc (.cells #[] 86)) (PropsR.below hP (hbw2.mono hB)) (by have := hbw2.size; omega) h2
  have hcn : crel ⟨rid, rty, rsrc, rdst, rps⟩ prev L = if cid rid prev 2048 62 = 0 then (if goodN rty = false then 60 else if hasId L rsrc = true ∧ hasId L rdst = true then cpropsAll rps else 65) else cid rid prev 2048 62 := rfl
  have hbk : Blk wo w.heap.size 47 #[.int .i64 rid, .string rty, .int .i64 rsrc, .int .i64 rdst, .slice A rps.length c] := by rw [hwo]; exact Blk.new _ _ _
  have g0 : wo.cell? ⟨w.heap.size, 0, none⟩ = some (.int .i64 rid) := by rw [hbk.cell 0]; rfl
  have g1 : wo.cell? ⟨w.heap.size, 1, none⟩ = some (.string rty) := by rw [hbk.cell 1]; rfl
  have g2 : wo.cell? ⟨w.heap.size, 2, none⟩ = some (.int .i64 rsrc) := by rw [hbk.cell 2]; rfl
  have g3 : wo.cell? ⟨w.heap.size, 3, none⟩ = some (.int .i64 rdst) := by rw [hbk.cell 3]; rfl
  have g4 : wo.cell? ⟨w.heap.size, 4, none⟩ = some (.slice A rps.length c) := by rw [hbk.cell 4]; rfl
  have Hwo := Lib.hid hwo
  have Hbw2 := Lib.hid hbw2
  clear hwo hbk hP hm hb2 hbw2 hL
  by_cases hz : cid rid prev 2048 62 = 0
  · rw [if_pos hz] at hcn
    rw [hz] at HI
    have HI := Lib.hid HI
    rcases hg : goodN rty with _ | _
    · rw [if_pos hg] at hcn
      rw [hg] at HG
      have HG := Lib.hid HG
      have Hcn := Lib.hid hcn
      clear hcn hz hg HP hh1 hh2
      go_enter Tryz.func63, Tryz.ntmps63
      go_wp2_with fail
      rw [← Hwo.out]
      refine HI.out.mono ?_
      rintro e w' ⟨rfl, rfl⟩
      go_wp2_with fail
      refine HG.out.mono ?_
      rintro e w' ⟨rfl, rfl⟩
      clear g0 g1 g2 g3 g4
      go_wp2
      go_ret
      exact ⟨ret_int Hcn.out.symm, hbo⟩
    · rw [if_neg (by rw [hg]; simp)] at hcn
      rw [hg] at HG
      have HG := Lib.hid HG
      rcases hx1 : hasId L rsrc with _ | _
      · rcases hx2 : hasId L rdst with _ | _
        · have Hcn : Hid (crel ⟨rid, rty, rsrc, rdst, rps⟩ prev L = 65) := Lib.hid (by rw [hcn, if_neg (by rw [hx1, hx2]; simp)])
          rw [hx1] at hh1
          rw [hx2] at hh2
          have HP := Lib.hid HP
          clear hcn hz hg hx1 hx2
          go_enter Tryz.func63, Tryz.ntmps63
          go_wp2_with fail
          rw [← Hwo.out]
          refine HI.out.mono ?_
          rintro e w' ⟨rfl, rfl⟩
          go_wp2_with fail
          refine HG.out.mono ?_
          rintro e w' ⟨rfl, rfl⟩
          go_wp2_with (first | (at_lookup; refine wpList_lookup_own_unit _ rfl (.tmp 24) (.tmp 26) 65 rfl 3 86 lawI Tryz.underlying65 (zeroU _) mb n _ (by rfl) hmo _ _ (by rfl) hkey1 ?_) | (at_lookup; refine wpList_lookup_own_unit _ rfl (.tmp 31) (.tmp 33) 65 rfl 3 86 lawI Tryz.underlying65 (zeroU _) mb n _ (by rfl) (hmo.alloc _) _ _ (by rfl) hkey2 ?_))
          clear g0 g1 g2 g3 g4 hmo hkey1 hkey2
          go_wp2
          go_ret
          exact ⟨ret_int Hcn.out.symm, Hbw2.out⟩
        · have Hcn : Hid (crel ⟨rid, rty, rsrc, rdst, rps⟩ prev L = 65) := Lib.hid (by rw [hcn, if_neg (by rw [hx1, hx2]; simp)])
          rw [hx1] at hh1
          rw [hx2] at hh2
          have HP := Lib.hid HP
          clear hcn hz hg hx1 hx2
          go_enter Tryz.func63, Tryz.ntmps63
          go_wp2_with fail
          rw [← Hwo.out]
          refine HI.out.mono ?_
          rintro e w' ⟨rfl, rfl⟩
          go_wp2_with fail
          refine HG.out.mono ?_
          rintro e w' ⟨rfl, rfl⟩
          go_wp2_with (first | (at_lookup; refine wpList_lookup_own_unit _ rfl (.tmp 24) (.tmp 26) 65 rfl 3 86 lawI Tryz.underlying65 (zeroU _) mb n _ (by rfl) hmo _ _ (by rfl) hkey1 ?_) | (at_lookup; refine wpList_lookup_own_unit _ rfl (.tmp 31) (.tmp 33) 65 rfl 3 86 lawI Tryz.underlying65 (zeroU _) mb n _ (by rfl) (hmo.alloc _) _ _ (by rfl) hkey2 ?_))
          clear g0 g1 g2 g3 g4 hmo hkey1 hkey2
          go_wp2
          go_ret
          exact ⟨ret_int Hcn.out.symm, Hbw2.out⟩
      · rcases hx2 : hasId L rdst with _ | _
        · have Hcn : Hid (crel ⟨rid, rty, rsrc, rdst, rps⟩ prev L = 65) := Lib.hid (by rw [hcn, if_neg (by rw [hx1, hx2]; simp)])
          rw [hx1] at hh1
          rw [hx2] at hh2
          have HP := Lib.hid HP
          clear hcn hz hg hx1 hx2
          go_enter Tryz.func63, Tryz.ntmps63
          go_wp2_with fail
          rw [← Hwo.out]
          refine HI.out.mono ?_
          rintro e w' ⟨rfl, rfl⟩
          go_wp2_with fail
          refine HG.out.mono ?_
          rintro e w' ⟨rfl, rfl⟩
          go_wp2_with (first | (at_lookup; refine wpList_lookup_own_unit _ rfl (.tmp 24) (.tmp 26) 65 rfl 3 86 lawI Tryz.underlying65 (zeroU _) mb n _ (by rfl) hmo _ _ (by rfl) hkey1 ?_) | (at_lookup; refine wpList_lookup_own_unit _ rfl (.tmp 31) (.tmp 33) 65 rfl 3 86 lawI Tryz.underlying65 (zeroU _) mb n _ (by rfl) (hmo.alloc _) _ _ (by rfl) hkey2 ?_))
          clear g0 g1 g2 g3 g4 hmo hkey1 hkey2
          go_wp2
          go_ret
          exact ⟨ret_int Hcn.out.symm, Hbw2.out⟩
        · have Hcn : Hid (crel ⟨rid, rty, rsrc, rdst, rps⟩ prev L = cpropsAll rps) := Lib.hid (by rw [hcn, if_pos ⟨hx1, hx2⟩])
          rw [hx1] at hh1
          rw [hx2] at hh2
          have HP := Lib.hid HP
          clear hcn hz hg hx1 hx2
          go_enter Tryz.func63, Tryz.ntmps63
          go_wp2_with fail
          rw [← Hwo.out]
          refine HI.out.mono ?_
          rintro e w' ⟨rfl, rfl⟩
          go_wp2_with fail
          refine HG.out.mono ?_
          rintro e w' ⟨rfl, rfl⟩
          go_wp2_with (first | (at_lookup; refine wpList_lookup_own_unit _ rfl (.tmp 24) (.tmp 26) 65 rfl 3 86 lawI Tryz.underlying65 (zeroU _) mb n _ (by rfl) hmo _ _ (by rfl) hkey1 ?_) | (at_lookup; refine wpList_lookup_own_unit _ rfl (.tmp 31) (.tmp 33) 65 rfl 3 86 lawI Tryz.underlying65 (zeroU _) mb n _ (by rfl) (hmo.alloc _) _ _ (by rfl) hkey2 ?_))
          clear g0 g1 g2 g3 hmo hkey1 hkey2
          refine HP.out.mono ?_
          rintro e w8 ⟨rfl, hb8⟩
          have hb9 := Hbw2.out.trans (hb8.mono Hbw2.out.size)
          clear g4 hb8
          go_wp2
          go_ret
          exact ⟨ret_int Hcn.out.symm, hb9⟩
  · rw [if_neg hz] at hcn
    obtain ⟨x, hx⟩ : ∃ x, x = cid rid prev 2048 62 := ⟨_, rfl⟩
    rw [← hx] at hz hcn HI
    have hne : (x != 0) = true := by simpa using hz
    have HI := Lib.hid HI
    have Hcn := Lib.hid hcn
    clear hcn hz HP HG hx hh1 hh2
    go_enter Tryz.func63, Tryz.ntmps63
    go_wp2_with fail
    rw [← Hwo.out]
    refine HI.out.mono ?_
    rintro e w' ⟨rfl, rfl⟩
    clear g0 g1 g2 g3 g4
    go_wp2
    go_ret
    exact ⟨ret_int Hcn.out.symm, hbo⟩

end Go.Proofs.YtdfpmolkkbplpaaGreat
