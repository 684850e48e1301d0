/- frame: first, size. -/
import Derived.Test.YtkdlehekignnhaaDoorFr1
import Derived.Test.YtkdlehekignnhaaDoorPool
import Derived.Deep.MidRow
namespace Go.Proofs.YtkdlehekignnhaaDoor
open Go.RowKit
set_option linter.unusedVariables false
set_option linter.unusedSimpArgs false

/-- a whole struct stored at a step of a region that draws its order -/
theorem step_store_row {P : Program} {ops : Array Oper} {o : Oper} {a : Act} {w : World} {K : Act → World → Prop} {Q : Exit → Act → World → Prop} {E : Prop} (hgd : o.guard = none) (ty : TypeId) (x y : Operand) (ho : o.op = .store ty x y)
    (g : Nat) (cells : Array Value) (hx : a.eval x = .pointer (some ⟨g, 0, none⟩)) (hy : a.eval y = .agg cells)
    (t : TypeId) (old : Array Value) (hg : Blk w g t old) (hi : (P.info? ty).map (·.size) = some cells.size) (hold : old.size = cells.size) (h1 : cells.all (·.oneCell') = true)
    (h : K (a.put o.dst undef) (w.setRow g cells)) : if Region.wanted o (yielded ops a.tmps) = true then Oper.wp P o a w K Q else E := by
  have hw : Region.wanted o (yielded ops a.tmps) = true := by simp [Region.wanted, hgd]
  rw [if_pos hw]
  exact wp_store_row ty x y ho g cells hx hy t old hg hi hold h1 h
theorem wrapI_small {n : Nat} (h : n < 256) : IntKind.i64.wrap (n : Int) = (n : Int) := by
  rw [IntKind.wrap_i64]
  omega
/-- how many bytes of data the head tells -/
def frN (b : List Nat) : Nat := be ((b.take 5).drop 1)
def firstErr (b : List Nat) : Int :=
  if b.length < 5 then 10 else if 1048576 < frN b then 1 else if b.length < 9 + frN b then 10
  else if be ((b.take (9 + frN b)).drop (5 + frN b)) ≠ crc (b.take (5 + frN b)) then 91 else 0
def frT (b : List Nat) : Nat := if firstErr b = 0 then nth b 0 else 0
def frD (b : List Nat) : List Nat := if firstErr b = 0 then (b.take (5 + frN b)).drop 5 else []
theorem getVal_at {b : List Nat} {a d : Nat} {ai di : Int} (ea : ai = a) (ed : di = d) (hd : d = 1 ∨ d = 2 ∨ d = 4 ∨ d = 8) (h : a + d ≤ b.length) : placeErr b.length ai di = 0 ∧ getVal b ai di = be ((b.take (a + d)).drop a) := by
  subst ea ed
  have hn : ¬ (isW (d : Int) = false ∨ (a : Int) < 0) := by
    rintro (h | h)
    · rw [isW_yes (by omega)] at h
      cases h
    · omega
  have h0 : placeErr b.length (a : Int) (d : Int) = 0 := placeErr_ok hn (by omega)
  refine ⟨h0, ?_⟩
  rw [getVal_ok h0]
  simp
theorem getVal_not {b : List Nat} {a d : Nat} {ai di : Int} (ea : ai = a) (ed : di = d) (hd : d = 1 ∨ d = 2 ∨ d = 4 ∨ d = 8) (h : b.length < a + d) : placeErr b.length ai di = 10 ∧ getVal b ai di = 0 := by
  subst ea ed
  have hn : ¬ (isW (d : Int) = false ∨ (a : Int) < 0) := by
    rintro (h | h)
    · rw [isW_yes (by omega)] at h
      cases h
    · omega
  have h0 : placeErr b.length (a : Int) (d : Int) = 10 := placeErr_short hn (by omega)
  exact ⟨h0, getVal_err (by rw [h0]; decide)⟩

set_option maxHeartbeats 400000 in
theorem size_any (t : Int) (A : Option Addr) (n c : Nat) (w : World) (hn : n ≤ 140737488355328) :
    Calls Tryd.prog 46 #[fragg t A n c] w fun e w' => e = .returned (.int .i64 ((9 + n : Nat) : Int)) ∧ Below w.heap.size w w' := by
  simp only [fragg]
  go_enter Tryd.func46, Tryd.ntmps46
  go_wp2_with fail
  go_ret
  exact ⟨ret_int (a := 5 + (n : Int) + 4) (by omega), (Below.refl _ _).alloc (Nat.le_refl _) _⟩

/-- what first leaves -/
def FirstW (b : List Nat) (w : World) (e : Ending) (w' : World) : Prop :=
  ∃ A c, e = .returned (.tuple #[fragg (frT b) A (frD b).length c, .int .i64 (firstErr b)]) ∧ St Zf [ObA 5 (.slice A (frD b).length c) (frD b)] w w'
set_option maxRecDepth 100000 in
set_option maxHeartbeats 1000000 in
theorem first_any (A : Option Addr) (c B : Nat) (b : List Nat) (w : World) (hT : TabW w) (hr : RB w B A b) (hB : B ≤ w.heap.size) (hl : b.length ≤ maxLen) (hc : b.length ≤ c) (hcm : c ≤ maxLen) :
    Calls Tryd.prog 45 #[.slice A b.length c] w (FirstW b w) := by
  have hS := (St.start Zf w).newBlk 25 #[.int .i64 0, .slice none 0 0]
  have HG1 := Lib.hid (Get_any A c B b 1 4 (w.alloc (.cells #[.int .i64 0, .slice none 0 0] 25)) (hr.alloc hB _) hl hc hcm (by decide) (by decide))
  have hnil : ∀ e0 : Int, e0 ≠ 0 → firstErr b = e0 → ∀ w', St Zf [BlkA w.heap.size 25 #[.int .i64 0, .slice none 0 0]] w w' → FirstW b w (.returned (.tuple #[fragg 0 none 0 0, .int .i64 e0])) w' := by
    intro e0 h0 h1 w' h2
    have hd : frD b = [] := by unfold frD; rw [if_neg (by rw [h1]; exact h0)]
    have ht : frT b = 0 := by unfold frT; rw [if_neg (by rw [h1]; exact h0)]
    unfold FirstW
    rw [hd, ht, h1]
    exact ⟨none, 0, rfl, (h2.drop).nilOb _⟩
  have HNil := Lib.hid hnil
  by_cases h5 : b.length < 5
  · obtain ⟨g1, g2⟩ := getVal_not (b := b) (a := 1) (d := 4) (ai := 1) (di := 4) rfl rfl (by omega) (by omega)
    have he : firstErr b = 10 := if_pos h5
    have HN2 := Lib.hid (hnil 10 (by decide) he)
    have HS := Lib.hid hS
    rw [g1, g2] at HG1
    clear hS hnil HNil hT hr hB hl hc hcm
    go_enter Tryd.func45, Tryd.ntmps45
    go_wp2_with fail
    refine HG1.out.mono ?_
    rintro e w1 ⟨rfl, rfl⟩
    go_wp2_with fail
    refine bodyPost_ret (results_row_tmp rfl _ _ w.heap.size 25 #[.int .i64 0, .slice none 0 0] _ rfl HS.out.blk Tryd.underlying25 rfl (by kernel_rfl)) rfl ?_
    exact HN2.out _ HS.out
  obtain ⟨g1, g2⟩ := getVal_at (b := b) (a := 1) (d := 4) (ai := 1) (di := 4) rfl rfl (by omega) (by omega)
  have g2' : getVal b 1 4 = frN b := g2
  rw [g1, g2'] at HG1
  clear g1 g2 g2'
  have hnl : frN b < 4294967296 := by
    have h := be_all _ ((hr.1.take 5).drop 1)
    rw [List.length_drop, List.length_take] at h
    have e : min 5 b.length - 1 = 4 := by omega
    rw [e] at h
    exact h
  by_cases hm : 1048576 < frN b
  · have he : firstErr b = 1 := by unfold firstErr; rw [if_neg h5, if_pos hm]
    have HN2 := Lib.hid (hnil 1 (by decide) he)
    have HS := Lib.hid hS
    have hm' : (1048576 : Int) < (frN b : Int) := by omega
    generalize frN b = n at *
    clear hS hnil HNil hT hr hB hl hc hcm he
    go_enter Tryd.func45, Tryd.ntmps45
    go_wp2_with fail
    refine HG1.out.mono ?_
    rintro e w1 ⟨rfl, rfl⟩
    go_wp2_with fail
    refine bodyPost_ret (results_row_tmp rfl _ _ w.heap.size 25 #[.int .i64 0, .slice none 0 0] _ rfl HS.out.blk Tryd.underlying25 rfl (by kernel_rfl)) rfl ?_
    exact HN2.out _ HS.out
  have hmI : ¬ (1048576 : Int) < (frN b : Int) := by omega
  have u1 : wrap64 (frN b : Int) = (frN b : Int) := by
    simp only [wrap64]
    omega
  by_cases h9 : b.length < 9 + frN b
  · have he : firstErr b = 10 := by unfold firstErr; rw [if_neg h5, if_neg hm, if_pos h9]
    have HN2 := Lib.hid (hnil 10 (by decide) he)
    have HS := Lib.hid hS
    obtain ⟨g1, g2⟩ := getVal_not (b := b) (a := 5 + frN b) (d := 4) (ai := 5 + (frN b : Int)) (di := 4) (by omega) rfl (by omega) (by omega)
    have HG2 := Lib.hid (Get_any A c B b (5 + (frN b : Int)) 4 (w.alloc (.cells #[.int .i64 0, .slice none 0 0] 25)) (hr.alloc hB _) hl hc hcm (by omega) (by omega))
    rw [g1, g2] at HG2
    generalize frN b = n at *
    clear hS hnil HNil hT hr hB hl hc hcm he g1 g2 h9
    go_enter Tryd.func45, Tryd.ntmps45
    go_wp2_with fail
    refine HG1.out.mono ?_
    rintro e w1 ⟨rfl, rfl⟩
    go_wp2_with fail
    refine HG2.out.mono ?_
    rintro e w1 ⟨rfl, rfl⟩
    go_wp2_with fail
    refine bodyPost_ret (results_row_tmp rfl _ _ w.heap.size 25 #[.int .i64 0, .slice none 0 0] _ rfl HS.out.blk Tryd.underlying25 rfl (by kernel_rfl)) rfl ?_
    exact HN2.out _ HS.out
  obtain ⟨bb, off, rfl, hbB, hcells⟩ := hr.all (by omega)
  obtain ⟨g1, g2⟩ := getVal_at (b := b) (a := 5 + frN b) (d := 4) (ai := 5 + (frN b : Int)) (di := 4) (by omega) rfl (by omega) (by omega)
  have HG2 := Lib.hid (Get_any (some ⟨bb, off, none⟩) c B b (5 + (frN b : Int)) 4 (w.alloc (.cells #[.int .i64 0, .slice none 0 0] 25)) (hr.alloc hB _) hl hc hcm (by omega) (by omega))
  rw [g1, g2] at HG2
  have hs1 := (hr.cut rfl 0 (5 + frN b) (by omega) (by omega)).alloc hB (.cells #[.int .i64 0, .slice none 0 0] 25)
  rw [List.drop_zero, Nat.add_zero] at hs1
  have hlen1 : (b.take (5 + frN b)).length = 5 + frN b := by rw [List.length_take]; omega
  have HSum : Hid (∀ cc, Calls Tryd.prog 30 #[.slice (some ⟨bb, off, none⟩) (5 + frN b) cc] (w.alloc (.cells #[.int .i64 0, .slice none 0 0] 25)) fun e w' => e = .returned (.int .u32 (crc (b.take (5 + frN b)) : Nat)) ∧ w.alloc (.cells #[.int .i64 0, .slice none 0 0] 25) = w') := Lib.hid fun cc => by
    have h := Sum_any (some ⟨bb, off, none⟩) cc B (b.take (5 + frN b)) _ (hT.below ((Below.refl _ _).alloc (Nat.le_refl _) _) hT.1) hs1 (by omega)
    rwa [hlen1] at h
  have hs2 := hr.cut rfl 5 (5 + frN b) (by omega) (by omega)
  have hlen2 : ((b.take (5 + frN b)).drop 5).length = frN b := by rw [List.length_drop, hlen1]; omega
  have HCl : Hid (∀ nn cc w', nn = frN b → Below w.heap.size w w' → Calls Tryd.prog 35 #[.slice (some ⟨bb, off + 5, none⟩) nn cc] w' (NewB ((b.take (5 + frN b)).drop 5) w')) := Lib.hid fun nn cc w' hnn hb => by
    subst hnn
    have h := Clone_any (some ⟨bb, off + 5, none⟩) cc B ((b.take (5 + frN b)).drop 5) w' (hs2.below' hb hB) (by have := hb.size; omega) (by rw [hlen2]; omega)
    rwa [hlen2] at h
  have hsum : be ((b.take (5 + frN b + 4)).drop (5 + frN b)) < 4294967296 := by
    have h := be_all _ ((hr.1.take (5 + frN b + 4)).drop (5 + frN b))
    rw [List.length_drop, List.length_take] at h
    have e : min (5 + frN b + 4) b.length - (5 + frN b) = 4 := by omega
    rw [e] at h
    exact h
  have hcl : crc (b.take (5 + frN b)) < 4294967296 := crc_lt (hr.1.take _)
  have h9e : 9 + frN b = 5 + frN b + 4 := by omega
  by_cases hq : be ((b.take (9 + frN b)).drop (5 + frN b)) = crc (b.take (5 + frN b))
  · have he : firstErr b = 0 := by unfold firstErr; rw [if_neg h5, if_neg hm, if_neg h9, if_neg (by simpa using hq)]
    have hd : frD b = (b.take (5 + frN b)).drop 5 := if_pos he
    have ht : frT b = nth b 0 := if_pos he
    have hc0' : (w.alloc (.cells #[.int .i64 0, .slice none 0 0] 25)).cell? ⟨bb, off, none⟩ = some (.int .u8 (nth b 0 : Nat)) :=
      (((Below.refl w.heap.size w).alloc (Nat.le_refl _) _).cell (p := ⟨bb, off, none⟩) (by show bb < _; omega)).trans (hcells 0 (by omega))
    have HS := Lib.hid hS
    have HNB := Lib.hid (hr.1.nth 0)
    have hb0 : bb < w.heap.size + 1 := by omega
    have hne : bb ≠ w.heap.size := by omega
    have HBB := Lib.hid hb0
    clear hb0
    rw [h9e] at hq
    have HD := Lib.hid hd
    have HD2 := Lib.hid hlen2
    unfold FirstW
    rw [he, ht]
    rw [hd] at *
    rw [hlen2]
    generalize (b.take (5 + frN b)).drop 5 = D at *
    generalize be ((b.take (5 + frN b + 4)).drop (5 + frN b)) = s at *
    generalize crc (b.take (5 + frN b)) = y at *
    have hbn : 5 + frN b ≤ b.length := by omega
    have hcc : 5 + frN b ≤ c := by omega
    have hnn : frN b ≤ 1048576 := by omega
    have i1 : (0 : Int) < (b.length : Int) := by omega
    have i2 : (5 : Int) ≤ 5 + (frN b : Int) := by omega
    have i3 : 5 + (frN b : Int) ≤ (c : Int) := by omega
    have i4 : (5 : Int) < (c : Int) := by omega
    have i5 : ¬ c = 5 := by omega
    have i6 : ¬ 5 = c := by omega
    have i7 : 5 < c := by omega
    have i8 : 0 < b.length := by omega
    generalize frN b = n at *
    generalize b.length = m at *
    subst hq
    have u2 : IntKind.u64.wrap (s : Int) = (s : Int) := by rw [IntKind.wrap_u64]; omega
    have h0b := HNB.out
    have u3 : wrap64 (nth b 0 : Int) = (nth b 0 : Int) := by
      simp only [wrap64]
      omega
    have U4 : Hid (IntKind.i64.wrap (nth b 0 : Int) = (nth b 0 : Int)) := Lib.hid (wrapI_small h0b)
    generalize nth b 0 = t0 at *
    clear hS hnil HNil hT hr hB hl hcm he g1 g2 h9 hs1 hs2 hlen1 hlen2 hcells hsum hcl h9e hnl h5 hm hd ht HNB
    go_enter Tryd.func45, Tryd.ntmps45
    go_wp2_with fail
    refine HG1.out.mono ?_
    rintro e w1 ⟨rfl, rfl⟩
    go_wp2_with fail
    refine HG2.out.mono ?_
    rintro e w1 ⟨rfl, rfl⟩
    go_wp2_with fail
    refine (HSum.out _).mono ?_
    rintro e w1 ⟨rfl, rfl⟩
    go_wp2_with fail
    have HS1 := Lib.hid HS.out.drew
    have HB0 := Lib.hid HS1.out.bel
    have HNE := Lib.hid hne
    clear hne
    -- REGION
    refine wp_region_held_drew (S := (fun w' => w'.cell? ⟨bb, off, none⟩ = some (.int .u8 (t0 : Int)))) (by kernel_rfl) (by (try dsimp only); first | with_reducible exact k3 | with_reducible exact k2 | go_keep) (fun hHeld => ?_)
    refine wpAnyH_take (i := 0) (v := ?_) rfl (by kernel_rfl) (by kernel_rfl) (by kernel_rfl) (fun _ _ _ h => h) (Or.inl ⟨by rfl, ?_⟩) (by assumption) ?_
    rotate_left
    · (intro w hSw; (try dsimp only at hSw); go_simp; try with_reducible rfl)
    try simp only [Act.put, List.getElem_toArray, List.getElem_cons_zero, List.getElem_cons_succ, List.setIfInBounds_toArray, List.set_cons_zero, List.set_cons_succ]
    refine wpAnyH_take (i := 1) (v := ?_) rfl (by kernel_rfl) (by kernel_rfl) (by kernel_rfl) (fun _ _ _ h => h) (Or.inl ⟨by rfl, ?_⟩) (by assumption) ?_
    rotate_left
    · (intro w hSw; (try dsimp only at hSw); go_simp; try with_reducible rfl)
    try simp only [Act.put, List.getElem_toArray, List.getElem_cons_zero, List.getElem_cons_succ, List.setIfInBounds_toArray, List.set_cons_zero, List.set_cons_succ]
    refine wpAnyH_take (i := 2) (v := ?_) rfl (by kernel_rfl) (by kernel_rfl) (by kernel_rfl) (fun _ _ _ h => h) (Or.inl ⟨by rfl, ?_⟩) (by assumption) ?_
    rotate_left
    · (intro w hSw; (try dsimp only at hSw); go_simp; try with_reducible rfl)
    try simp only [Act.put, List.getElem_toArray, List.getElem_cons_zero, List.getElem_cons_succ, List.setIfInBounds_toArray, List.set_cons_zero, List.set_cons_succ]
    refine wpAnyH_take (i := 3) (v := ?_) rfl (by kernel_rfl) (by kernel_rfl) (by kernel_rfl) (fun _ _ _ h => h) (Or.inl ⟨by rfl, ?_⟩) (by assumption) ?_
    rotate_left
    · (intro w hSw; (try dsimp only at hSw); go_simp; try with_reducible rfl)
    try simp only [Act.put, List.getElem_toArray, List.getElem_cons_zero, List.getElem_cons_succ, List.setIfInBounds_toArray, List.set_cons_zero, List.set_cons_succ]
    refine wpAnyH_take (i := 4) (v := ?_) rfl (by kernel_rfl) (by kernel_rfl) (by kernel_rfl) (fun _ _ _ h => h) (Or.inl ⟨by rfl, ?_⟩) (by assumption) ?_
    rotate_left
    · (intro w hSw; (try dsimp only at hSw); go_simp; try with_reducible rfl)
    try simp only [Act.put, List.getElem_toArray, List.getElem_cons_zero, List.getElem_cons_succ, List.setIfInBounds_toArray, List.set_cons_zero, List.set_cons_succ]
    refine wpAnyH_take (i := 5) (v := ?_) rfl (by kernel_rfl) (by kernel_rfl) (by kernel_rfl) (fun _ _ _ h => h) (Or.inl ⟨by rfl, ?_⟩) (by assumption) ?_
    rotate_left
    · (intro w hSw; (try dsimp only at hSw); go_simp; try with_reducible rfl)
    try simp only [Act.put, List.getElem_toArray, List.getElem_cons_zero, List.getElem_cons_succ, List.setIfInBounds_toArray, List.set_cons_zero, List.set_cons_succ]
    refine wpAnyH_take (i := 6) (v := ?_) rfl (by kernel_rfl) (by kernel_rfl) (by kernel_rfl) (fun _ _ _ h => h) (Or.inl ⟨by rfl, ?_⟩) (by assumption) ?_
    rotate_left
    · (intro w hSw; (try dsimp only at hSw); go_simp; try with_reducible rfl)
    try simp only [Act.put, List.getElem_toArray, List.getElem_cons_zero, List.getElem_cons_succ, List.setIfInBounds_toArray, List.set_cons_zero, List.set_cons_succ]
    refine wpAnyH_ready (rs := [7]) (by kernel_rfl) (by simp) ?_
    refine AllReadyH.cons rfl (fun K hK => ?_) AllReadyH.nil
    go_simp
    go_at_call 35
    refine (HCl.out _ _ _ (by omega) HB0.out).mono ?_
    rintro e w2 ⟨v2, rfl, ho2, hb2⟩
    obtain ⟨A2, c2, rfl, -, -, -, -⟩ := ho2.form
    rw [HD2.out] at ho2 ⊢
    have k2 := (hb2.cell (p := ⟨bb, off, none⟩) (by simpa using HBB.out)).trans hc0'
    have H2 := Lib.hid (HS1.out.newOb (ho2) hb2).swap
    clear ho2 hb2
    refine hK.out _ _ (by (try dsimp only); first | with_reducible exact k3 | with_reducible exact k2 | go_keep) (fun hHeld => ?_)
    clear hK K
    try simp only [Act.put, List.getElem_toArray, List.getElem_cons_zero, List.getElem_cons_succ, List.setIfInBounds_toArray, List.set_cons_zero, List.set_cons_succ]
    refine wpAnyH_take (i := 8) (v := ?_) rfl (by kernel_rfl) (by kernel_rfl) (by kernel_rfl) (fun _ _ _ h => h) (Or.inl ⟨by rfl, ?_⟩) (by assumption) ?_
    rotate_left
    · (intro w hSw; (try dsimp only at hSw); go_simp; try with_reducible rfl)
    try simp only [Act.put, List.getElem_toArray, List.getElem_cons_zero, List.getElem_cons_succ, List.setIfInBounds_toArray, List.set_cons_zero, List.set_cons_succ]
    refine wpAnyH_ready (rs := [9]) (by kernel_rfl) (by simp) ?_
    refine AllReadyH.cons rfl (fun K hK => ?_) AllReadyH.nil
    have k3 : (w2.setRow w.heap.size #[.int .i64 (t0 : Int), .slice A2 n c2]).cell? ⟨bb, off, none⟩ = some (.int .u8 (t0 : Int)) := (World.cell?_of_block (setRow_other _ _ _ _ HNE.out)).trans k2
    have H3 := Lib.hid (H2.out.setRowL #[.int .i64 (t0 : Int), .slice A2 n c2])
    refine step_store_row (by rfl) 25 _ _ (by rfl) w.heap.size #[.int .i64 (t0 : Int), .slice A2 n c2] (by rfl) (by show Value.agg #[.int .i64 (IntKind.i64.wrap (t0 : Int)), .slice A2 n c2] = _; rw [U4.out]) 25 _ H2.out.blk (by kernel_rfl) rfl (by rw [← Array.all_toList]; rfl) ?_
    refine hK.out _ _ (by (try dsimp only); first | with_reducible exact k3 | with_reducible exact k2 | go_keep) (fun hHeld => ?_)
    clear hK K
    try simp only [Act.put, List.getElem_toArray, List.getElem_cons_zero, List.getElem_cons_succ, List.setIfInBounds_toArray, List.set_cons_zero, List.set_cons_succ]
    refine wpAnyH_take (i := 10) (v := ?_) rfl (by kernel_rfl) (by kernel_rfl) (by kernel_rfl) (fun _ _ _ h => h) (Or.inl ⟨by rfl, ?_⟩) (by assumption) ?_
    rotate_left
    · (intro w hSw; (try dsimp only at hSw); go_simp; try with_reducible rfl)
    try simp only [Act.put, List.getElem_toArray, List.getElem_cons_zero, List.getElem_cons_succ, List.setIfInBounds_toArray, List.set_cons_zero, List.set_cons_succ]
    refine wpAnyH_done (by kernel_rfl) ?_ _
    go_wp2
    refine bodyPost_ret (results_row_tmp rfl _ _ w.heap.size 25 #[.int .i64 (t0 : Int), .slice A2 n c2] _ rfl H3.out.blk Tryd.underlying25 rfl (by kernel_rfl)) rfl ?_
    have h4 := H3.out.drop
    rw [← HD2.out] at h4 ⊢
    exact ⟨A2, c2, rfl, h4⟩
    -- END
  · have he : firstErr b = 91 := by unfold firstErr; rw [if_neg h5, if_neg hm, if_neg h9, if_pos hq]
    have HN2 := Lib.hid (hnil 91 (by decide) he)
    have HS := Lib.hid hS
    rw [h9e] at hq
    generalize be ((b.take (5 + frN b + 4)).drop (5 + frN b)) = s at *
    generalize crc (b.take (5 + frN b)) = y at *
    have hbn : 5 + frN b ≤ b.length := by omega
    have hcc : 5 + frN b ≤ c := by omega
    generalize frN b = n at *
    have u2 : IntKind.u64.wrap (y : Int) = (y : Int) := by rw [IntKind.wrap_u64]; omega
    have hne : ¬ (s : Int) = (y : Int) := by omega
    clear hS hnil HNil hT hr hB hl hcm he g1 g2 h9 hs1 hs2 hlen1 hlen2 HCl hcells hsum hcl hq h9e hnl h5 hm
    go_enter Tryd.func45, Tryd.ntmps45
    go_wp2_with fail
    refine HG1.out.mono ?_
    rintro e w1 ⟨rfl, rfl⟩
    go_wp2_with fail
    refine HG2.out.mono ?_
    rintro e w1 ⟨rfl, rfl⟩
    go_wp2_with fail
    refine (HSum.out _).mono ?_
    rintro e w1 ⟨rfl, rfl⟩
    go_wp2_with fail
    refine bodyPost_ret (results_row_tmp rfl _ _ w.heap.size 25 #[.int .i64 0, .slice none 0 0] _ rfl HS.out.blk Tryd.underlying25 rfl (by kernel_rfl)) rfl ?_
    exact HN2.out _ HS.out

end Go.Proofs.YtkdlehekignnhaaDoor
