/- frame: the document's SameAll, of a list that was told and an equal one that came in. -/
import Derived.Test.YtkdlehekignnhaaDoorFrRef3
import Derived.Test.YtkdlehekignnhaaDoorFrOpens
namespace Go.Proofs.YtkdlehekignnhaaDoor
open Go.RowKit Go.Shelf
set_option linter.unusedVariables false
set_option linter.unusedSimpArgs false

set_option maxRecDepth 100000 in
set_option maxHeartbeats 1000000 in
theorem refSameAll_in {l : List Ass} [Stable (Sep l)] {w0 w : World} {v : Value} {X : List Fq} {A' : Option Addr} {cx' B : Nat} {Y : List Fi} (h : St Zf (FsA v X :: l) w0 w) (hi : FisR w B A' Y) (hB : B ≤ w.heap.size) (he : X.map Fq.f = Y.map fun o => (o.t.toNat, o.d)) (ht : ∀ o ∈ Y, 0 ≤ o.t) (hm : X.length ≤ 1099511627776) :
    Calls Tryd.prog 19 #[v, .slice A' Y.length cx'] w fun e w' => e = .returned (.bool true) ∧ Below w.heap.size w w' := by
  have hl : X.length = Y.length := by simpa using congrArg List.length he
  obtain ⟨A, cx, hv, -, -, -⟩ := (St.flat h).owForm
  subst hv
  obtain ⟨L, hL⟩ : ∃ L, X.length = L := ⟨_, rfl⟩
  have hL' : Y.length = L := by rw [← hl]; exact hL
  have HL := Lib.hid hL
  have HL' := Lib.hid hL'
  have HE := Lib.hid he
  have HT := Lib.hid ht
  have HI := Lib.hid hi
  have HBB := Lib.hid hB
  rw [hL] at h hm
  have H := Lib.hid h
  rw [hL, hL']
  clear h hl hL hL' he ht hi hB
  go_enter Tryd.func19, Tryd.ntmps19
  go_wp2
  go_loopw [5] (fun i wr => ∃ k : Nat, k ≤ L ∧ i = .int .i64 k ∧ Below w.heap.size w wr) (fun i _ => L - (intOf i).toNat)
  case atStart => exact ⟨0, Nat.zero_le _, rfl, Below.refl _ _⟩
  case round =>
    obtain ⟨k, hk, rfl, hb⟩ := hrel
    have HB := Lib.hid hb
    by_cases hlt : k < L
    · have hst := H.out.below hb
      obtain ⟨b1, o1, x1, e1, p0, p1, pr, pl⟩ := fs_at hst (k := k) (by rw [HL.out]; exact hlt)
      obtain ⟨o, ho⟩ : ∃ o, Y[k]? = some o := ⟨_, List.getElem?_eq_getElem (by rw [HL'.out]; exact hlt)⟩
      obtain ⟨b2, o2, e2, -, A2, c2, r0, r1, rr, rl1, rl2, -⟩ := (HI.out.below (hb.mono HBB.out)) k o ho
      have hBw : B ≤ wr.heap.size := Nat.le_trans HBB.out hb.size
      have rl : o.d.length ≤ maxLen := by unfold maxLen; omega
      simp only [Value.slice.injEq] at e1
      obtain ⟨rfl, -, rfl⟩ := e1
      subst e2
      have hfe : o.t = ((nthD X k).t : Int) ∧ o.d = (nthD X k).d := by
        have h1 := congrArg (fun l => l[k]?) HE.out
        simp only [List.getElem?_map, nthD_get (show k < X.length by rw [HL.out]; exact hlt), ho, Option.map_some, Option.some.injEq] at h1
        have h2 := congrArg Prod.fst h1
        have h3 := congrArg Prod.snd h1
        have h4 := HT.out o (List.mem_of_getElem? ho)
        simp only [Fq.f] at h2 h3
        exact ⟨by omega, h3.symm⟩
      obtain ⟨ft, fd⟩ := hfe
      rw [ft] at r0
      rw [fd] at r1 rr rl
      generalize (nthD X k).t = t0 at *
      generalize (nthD X k).d = d0 at *
      generalize (nthD X k).A = A1 at *
      generalize (nthD X k).c = c1 at *
      have hsm := refSame_any (t0 : Int) (t0 : Int) A1 A2 c1 c2 _ _ d0 d0 wr.drew pr (Nat.le_refl _) rr hBw pl rl
      simp only [fragg, and_self, decide_true] at hsm
      have HSM := Lib.hid hsm
      obtain ⟨n0, hn0⟩ : ∃ n, d0.length = n := ⟨_, rfl⟩
      rw [hn0] at p1 r1 HSM
      have HLT := Lib.hid hlt
      have hkI : (k : Int) < (L : Int) := by omega
      have q0 : (0 : Int) ≤ (k : Int) := by omega
      have HBW : Hid (b1 < wr.heap.size ∧ b2 < wr.heap.size) := Lib.hid ⟨World.block_lt_of_cell? wr _ p0, World.block_lt_of_cell? wr _ r0⟩
      clear hst pr rr pl rl rl1 rl2 hBw ho hsm hk hlt hn0 ft fd
      go_wp2
      -- REGION6
      refine wp_region_held_drew (S := (fun w' => w'.cell? ⟨b1, o1 + k * 2, none⟩ = some (.int .i64 (t0 : Int)) ∧ w'.cell? ⟨b1, o1 + k * 2 + 1, none⟩ = some (.slice A1 n0 c1) ∧ w'.cell? ⟨b2, o2 + k * 2, none⟩ = some (.int .i64 (t0 : Int)) ∧ w'.cell? ⟨b2, o2 + k * 2 + 1, none⟩ = some (.slice A2 n0 c2))) (by kernel_rfl) (by (try dsimp only); first | with_reducible exact ⟨m0, m1, m2, m3⟩ | exact ⟨p0, p1, r0, r1⟩ | go_keep) (fun hHeld => ?_)
      refine wpAnyH_take (i := 0) (v := ?_) rfl (by kernel_rfl) (by kernel_rfl) (by kernel_rfl) (fun _ _ _ h => h) (Or.inl ⟨by rfl, ?_⟩) (by assumption) ?_
      rotate_left
      · (intro w hSw; (try dsimp only at hSw); go_simp; try with_reducible rfl)
      try simp only [Act.put, List.getElem_toArray, List.getElem_cons_zero, List.getElem_cons_succ, List.setIfInBounds_toArray, List.set_cons_zero, List.set_cons_succ]
      refine wpAnyH_take (i := 1) (v := ?_) rfl (by kernel_rfl) (by kernel_rfl) (by kernel_rfl) (fun _ _ _ h => h) (Or.inl ⟨by rfl, ?_⟩) (by assumption) ?_
      rotate_left
      · (intro w hSw; (try dsimp only at hSw); go_simp; try with_reducible rfl)
      try simp only [Act.put, List.getElem_toArray, List.getElem_cons_zero, List.getElem_cons_succ, List.setIfInBounds_toArray, List.set_cons_zero, List.set_cons_succ]
      refine wpAnyH_take (i := 2) (v := ?_) rfl (by kernel_rfl) (by kernel_rfl) (by kernel_rfl) (fun _ _ _ h => h) (Or.inl ⟨by rfl, ?_⟩) (by assumption) ?_
      rotate_left
      · (intro w hSw; (try dsimp only at hSw); go_simp; try with_reducible rfl)
      try simp only [Act.put, List.getElem_toArray, List.getElem_cons_zero, List.getElem_cons_succ, List.setIfInBounds_toArray, List.set_cons_zero, List.set_cons_succ]
      refine wpAnyH_take (i := 3) (v := ?_) rfl (by kernel_rfl) (by kernel_rfl) (by kernel_rfl) (fun _ _ _ h => h) (Or.inl ⟨by rfl, ?_⟩) (by assumption) ?_
      rotate_left
      · (intro w hSw; (try dsimp only at hSw); go_simp; try with_reducible rfl)
      try simp only [Act.put, List.getElem_toArray, List.getElem_cons_zero, List.getElem_cons_succ, List.setIfInBounds_toArray, List.set_cons_zero, List.set_cons_succ]
      refine wpAnyH_take (i := 4) (v := ?_) rfl (by kernel_rfl) (by kernel_rfl) (by kernel_rfl) (fun _ _ _ h => h) (Or.inl ⟨by rfl, ?_⟩) (by assumption) ?_
      rotate_left
      · (intro w hSw; (try dsimp only at hSw); go_simp; try with_reducible rfl)
      try simp only [Act.put, List.getElem_toArray, List.getElem_cons_zero, List.getElem_cons_succ, List.setIfInBounds_toArray, List.set_cons_zero, List.set_cons_succ]
      refine wpAnyH_take (i := 5) (v := ?_) rfl (by kernel_rfl) (by kernel_rfl) (by kernel_rfl) (fun _ _ _ h => h) (Or.inl ⟨by rfl, ?_⟩) (by assumption) ?_
      rotate_left
      · (intro w hSw; (try dsimp only at hSw); go_simp; try with_reducible rfl)
      try simp only [Act.put, List.getElem_toArray, List.getElem_cons_zero, List.getElem_cons_succ, List.setIfInBounds_toArray, List.set_cons_zero, List.set_cons_succ]
      refine wpAnyH_take (i := 6) (v := ?_) rfl (by kernel_rfl) (by kernel_rfl) (by kernel_rfl) (fun _ _ _ h => h) (Or.inl ⟨by rfl, ?_⟩) (by assumption) ?_
      rotate_left
      · (intro w hSw; (try dsimp only at hSw); go_simp; try with_reducible rfl)
      try simp only [Act.put, List.getElem_toArray, List.getElem_cons_zero, List.getElem_cons_succ, List.setIfInBounds_toArray, List.set_cons_zero, List.set_cons_succ]
      refine wpAnyH_take (i := 7) (v := ?_) rfl (by kernel_rfl) (by kernel_rfl) (by kernel_rfl) (fun _ _ _ h => h) (Or.inl ⟨by rfl, ?_⟩) (by assumption) ?_
      rotate_left
      · (intro w hSw; (try dsimp only at hSw); go_simp; try with_reducible rfl)
      try simp only [Act.put, List.getElem_toArray, List.getElem_cons_zero, List.getElem_cons_succ, List.setIfInBounds_toArray, List.set_cons_zero, List.set_cons_succ]
      refine wpAnyH_ready (rs := [8]) (by kernel_rfl) (by simp) ?_
      refine AllReadyH.cons rfl (fun K hK => ?_) AllReadyH.nil
      go_simp
      go_at_call 16
      refine HSM.out.mono ?_
      rintro e w2 ⟨rfl, hb2⟩
      have m0 := (hb2.cell (p := ⟨b1, o1 + k * 2, none⟩) HBW.out.1).trans p0
      have m1 := (hb2.cell (p := ⟨b1, o1 + k * 2 + 1, none⟩) HBW.out.1).trans p1
      have m2 := (hb2.cell (p := ⟨b2, o2 + k * 2, none⟩) HBW.out.2).trans r0
      have m3 := (hb2.cell (p := ⟨b2, o2 + k * 2 + 1, none⟩) HBW.out.2).trans r1
      have HB2 : Hid (Below w.heap.size w w2) := Lib.hid (HB.out.drew.trans (hb2.mono HB.out.size))
      clear hb2
      refine hK.out _ _ (by (try dsimp only); first | with_reducible exact ⟨m0, m1, m2, m3⟩ | exact ⟨p0, p1, r0, r1⟩ | go_keep) (fun hHeld => ?_)
      clear hK K
      try simp only [Act.put, List.getElem_toArray, List.getElem_cons_zero, List.getElem_cons_succ, List.setIfInBounds_toArray, List.set_cons_zero, List.set_cons_succ]
      refine wpAnyH_take (i := 9) (v := ?_) rfl (by kernel_rfl) (by kernel_rfl) (by kernel_rfl) (fun _ _ _ h => h) (Or.inl ⟨by rfl, ?_⟩) (by assumption) ?_
      rotate_left
      · (intro w hSw; (try dsimp only at hSw); go_simp; try with_reducible rfl)
      try simp only [Act.put, List.getElem_toArray, List.getElem_cons_zero, List.getElem_cons_succ, List.setIfInBounds_toArray, List.set_cons_zero, List.set_cons_succ]
      refine wpAnyH_done (by kernel_rfl) ?_ _
      go_wp2
      go_roundw
      case rel => exact ⟨k + 1, HLT.out, by go_num, HB2.out⟩
      case measure =>
        have := HLT.out
        simp [intOf]
        omega
      -- END
    · obtain rfl : k = L := by omega
      obtain ⟨wo, hwo⟩ : ∃ q, q = wr := ⟨_, rfl⟩
      rw [← hwo] at HB ⊢
      clear hb hwo
      go_wp2
      go_ret
      exact ⟨rfl, HB.out⟩

end Go.Proofs.YtkdlehekignnhaaDoor
