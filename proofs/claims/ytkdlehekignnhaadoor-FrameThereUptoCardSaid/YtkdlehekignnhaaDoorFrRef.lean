/- frame: the document's Same and Pack. -/
import Derived.Test.YtkdlehekignnhaaDoorFr8
import Derived.Test.YtkdlehekignnhaaDoorRefSet
namespace Go.Proofs.YtkdlehekignnhaaDoor
open Go.RowKit Go.Shelf
set_option linter.unusedVariables false
set_option linter.unusedSimpArgs false

set_option maxHeartbeats 400000 in
theorem refSame_any (t t' : Int) (A A' : Option Addr) (c c' B B' : Nat) (d d' : List Nat) (w : World) (hr : RB w B A d) (hB : B ≤ w.heap.size) (hr' : RB w B' A' d') (hB' : B' ≤ w.heap.size) (hl : d.length ≤ maxLen) (hl' : d'.length ≤ maxLen) :
    Calls Tryd.prog 16 #[fragg t A d.length c, fragg t' A' d'.length c'] w fun e w' => e = .returned (.bool (decide (t = t' ∧ d = d'))) ∧ Below w.heap.size w w' := by
  simp only [fragg]
  have hb0 : Below w.heap.size w ((w.alloc (.cells #[.int .i64 t, .slice A d.length c] 25)).alloc (.cells #[.int .i64 t', .slice A' d'.length c'] 25)) := ((Below.refl _ _).alloc (Nat.le_refl _) _).alloc (by simp) _
  have h1 := run_bytes_str (P := Tryd.prog) ((w.alloc (.cells #[.int .i64 t, .slice A d.length c] 25)).alloc (.cells #[.int .i64 t', .slice A' d'.length c'] 25)) 23 9 5 c Tryd.underlying23 Tryd.underlying5 Tryd.underlying9 (hr.below' hb0 hB)
  have h2 := run_bytes_str (P := Tryd.prog) ((w.alloc (.cells #[.int .i64 t, .slice A d.length c] 25)).alloc (.cells #[.int .i64 t', .slice A' d'.length c'] 25)) 23 9 5 c' Tryd.underlying23 Tryd.underlying5 Tryd.underlying9 (hr'.below' hb0 hB')
  have hb : ((strOf d).toList == (strOf d').toList) = decide (d = d') := by
    rw [Bool.eq_iff_iff, beq_iff_eq, decide_eq_true_iff]
    exact ⟨fun e => (strOf_inj hr.1 hr'.1).1 (str_eq_of_list e), fun e => by rw [e]⟩
  have HB0 := Lib.hid hb0
  by_cases ht : t = t'
  · have hd : decide (t = t' ∧ d = d') = decide (d = d') := by simp [ht]
    rw [hd]
    subst ht
    clear hb0 hr hr' hd
    go_enter Tryd.func16, Tryd.ntmps16
    go_wp2_with fail
    go_ret
    exact ⟨rfl, HB0.out⟩
  · have hd : decide (t = t' ∧ d = d') = false := by simp [ht]
    rw [hd]
    have ht' : (t == t') = false := by simpa using ht
    clear hb0 hr hr' hd h1 h2 hb
    go_enter Tryd.func16, Tryd.ntmps16
    go_wp2_with fail
    go_ret
    exact ⟨rfl, HB0.out⟩

/-- append(s, x...) of bytes, at a step of a region that draws its order -/
theorem step_append_bytes {P : Program} (w : World) {ops : Array Oper} {o : Oper} {a : Act} {K : Act → World → Prop} {Q : Exit → Act → World → Prop} {E : Prop} (hgd : o.guard = none) (s x : Operand) (t : TypeId)
    (ho : o.op = .call { callee := .builtin .append, args := #[s, x], argTypes := #[t, t] })
    (base : Nat) (e : TypeId) (i : TypeInfo) (ht : P.underlying t = some (.slice e)) (hi : P.info? e = some i) (hz : i.zero = some (.int .u8 0)) (hsize : i.size = 1) (hby : i.bytes = 1)
    (v : Value) (bs : List Nat) (hs : a.eval s = v) (hown : OB w base e v bs)
    (A : Option Addr) (cp B : Nat) (news : List Nat) (m : Nat) (hm : news.length = m) (hx : a.eval x = .slice A m cp) (hr : RB w B A news)
    (hlen : bs.length + m ≤ 140737488355328) (hbase : base ≤ w.heap.size)
    (h : ∀ v' w', OB w' base e v' (bs ++ news) → w.grownBy w' v.ownBlock → (v'.ownBlock = v.ownBlock ∨ v'.ownBlock = some w.heap.size) → K (a.put o.dst v') w') :
    if Region.wanted o (yielded ops a.tmps) = true then Oper.wp P o a w K Q else E := by
  subst hm
  have hw : Region.wanted o (yielded ops a.tmps) = true := by simp [Region.wanted, hgd]
  rw [if_pos hw]
  obtain ⟨v', w', hrun, h2, h3, h4⟩ := run_append_bytes (P := P) w t o.type base e i ht hi hz hsize hby v bs hown A cp B news hr hlen hbase
  unfold Oper.wp execOp
  simp only [ho, resolve, invoke, builtin, Sem.run_bind, Sem.run_pure, Result.andThen_ok, List.map_toArray, List.map_cons, List.map_nil, hs, hx, hrun]
  exact h v' w' h2 h3 h4

set_option maxHeartbeats 400000 in
theorem refSum_any (A : Option Addr) (cap B : Nat) (bs : List Nat) (w : World) (h : RB w B A bs) (hl : bs.length ≤ maxLen) :
    Calls Tryd.prog 33 #[.slice A bs.length cap] w fun e w' => e = .returned (.int .u32 (crc bs : Nat)) ∧ w = w' := by
  have H := Lib.hid (refUpdate_any 0 A cap B bs w (by omega) h hl)
  go_enter Tryd.func33, Tryd.ntmps33
  go_wp2_with fail
  refine (H.out).mono ?_
  rintro e w' ⟨rfl, rfl⟩
  go_wp2
  go_ret
  exact ⟨rfl, rfl⟩
theorem refNumA {S : Fp} {l : List Ass} [Stable (Sep l)] {w0 w : World} (h : St S l w0 w) {d : Nat} {dd : Int} (hdd : (d : Int) = dd) (hd : d = 1 ∨ d = 2 ∨ d = 4 ∨ d = 8) (n : Nat) (hn : n < 18446744073709551616) :
    Calls Tryd.prog 32 #[.int .i64 dd, .int .u64 n] w fun e w' => ∃ A c, e = .returned (.slice A d c) ∧ d ≤ c ∧ c ≤ maxLen ∧ St S (ObA 5 (.slice A d c) (enc d n) :: l) w0 w' := by
  subst hdd
  have h1 := refNum_any (d : Int) n w hn
  rw [if_pos (isW_yes (by omega)), Int.toNat_natCast] at h1
  refine h1.mono ?_
  rintro e w' ⟨v, rfl, ho, hb⟩
  obtain ⟨A, c, rfl, h2, h3, -, -⟩ := ho.form
  rw [enc_length] at h2 ⊢
  have h4 := h.newOb ho hb
  rw [enc_length] at h4
  exact ⟨A, c, rfl, h2, h3, h4⟩

def RPackW (t : Int) (d : List Nat) (w : World) (e : Ending) (w' : World) : Prop := ∃ v, e = .returned (.tuple #[v, .int .i64 (packErr t d)]) ∧ St Zf [ObA 5 v (packB t d)] w w'
set_option maxRecDepth 100000 in
set_option maxHeartbeats 1000000 in
theorem refPack_any (t : Int) (A : Option Addr) (c B : Nat) (d : List Nat) (w : World) (hr : RB w B A d) (hB : B ≤ w.heap.size) (hl : d.length ≤ 140737488351232) :
    Calls Tryd.prog 14 #[fragg t A d.length c] w (RPackW t d w) := by
  have hS := (St.start Zf w).newBlk 25 #[.int .i64 t, .slice A d.length c]
  simp only [fragg]
  by_cases ht : t < 0 ∨ 255 < t
  · have he : packErr t d = 2 := if_pos ht
    have hb : packB t d = [] := by unfold packB; rw [he]; rfl
    unfold RPackW
    rw [he, hb]
    have HS := Lib.hid ((hS.newNilB 5 rfl).swap.drop)
    rw [World.size_alloc] at HS
    clear hS
    go_enter Tryd.func14, Tryd.ntmps14
    by_cases h0 : t < 0
    · go_wp2_with fail
      go_ret2
      exact ⟨_, rfl, HS.out⟩
    · have h1 : 255 < t := by omega
      go_wp2_with fail
      go_ret2
      exact ⟨_, rfl, HS.out⟩
  · by_cases hm : 1048576 < d.length
    · have he : packErr t d = 1 := by unfold packErr; rw [if_neg ht, if_pos hm]
      have hb : packB t d = [] := by unfold packB; rw [he]; rfl
      unfold RPackW
      rw [he, hb]
      have HS := Lib.hid ((hS.newNilB 5 rfl).swap.drop)
      rw [World.size_alloc] at HS
      have h0 : 0 ≤ t := by omega
      have h1 : t ≤ 255 := by omega
      clear hS
      go_enter Tryd.func14, Tryd.ntmps14
      go_wp2_with fail
      go_ret2
      exact ⟨_, rfl, HS.out⟩
    · have he : packErr t d = 0 := by unfold packErr; rw [if_neg ht, if_neg hm]
      have hb : packB t d = fbytes t.toNat d := by unfold packB; rw [he]; rfl
      unfold RPackW
      rw [he, hb]
      obtain ⟨k, rfl⟩ : ∃ k : Nat, t = (k : Int) := ⟨t.toNat, by omega⟩
      have hk : k ≤ 255 := by omega
      have hd : d.length ≤ 1048576 := by omega
      have HFB := Lib.hid (show fbytes k d = fbody k d ++ enc 4 (crc (fbody k d)) from rfl)
      rw [Int.toNat_natCast]
      have h0 : ¬ (k : Int) < 0 := by omega
      have h1 : ¬ (255 : Int) < (k : Int) := by omega
      have hm' : ¬ (1048576 : Int) < (d.length : Int) := by omega
      have HR : Hid (∀ w', Below w.heap.size w w' → RB w' B A d) := Lib.hid fun w' hb => hr.below' hb hB
      have HRB := Lib.hid hr.1
      have HS := Lib.hid hS
      have HD := Lib.hid hd
      have HK := Lib.hid hk
      clear hS hr hB hl he hb hd ht hk
      go_enter Tryd.func14, Tryd.ntmps14
      obtain ⟨i0, hi, hz0, hz1, hz2⟩ := info_parts u8_info
      have H64 : Hid (d.length < 18446744073709551616) := Lib.hid (by have := HD.out; omega)
      have u2 : IntKind.u64.wrap (d.length : Int) = (d.length : Int) := by rw [IntKind.wrap_u64]; have := HD.out; omega
      have HLT : Hid (#[Value.int .u8 (IntKind.u8.wrap (k : Int))].toList = cells8 [k]) := Lib.hid (by
        have e : IntKind.u8.wrap (k : Int) = (k : Int) := by rw [IntKind.wrap_u8]; have := HK.out; omega
        rw [e]
        rfl)
      have HK1 : Hid (IsBytes [k]) := Lib.hid (IsBytes.single (by have := HK.out; omega))
      have HSA := Lib.hid HS.out.drew
      have HSB := Lib.hid (HSA.out.litB 5 [k] HK1.out 1 rfl (by decide) #[.int .u8 (IntKind.u8.wrap (k : Int))] HLT.out (w.heap.size + 1) (by simp))
      have HU8 : Hid (IntKind.u8.wrap (k : Int) = (k : Int)) := Lib.hid (by rw [IntKind.wrap_u8]; have := HK.out; omega)
      have HE1 : Hid (enc 1 k = [k]) := Lib.hid (by
        have := HK.out
        simp [enc]
        omega)
      go_wp2_with fail
      -- REGION5
      refine wp_region_held_drew (S := (fun w' => w'.cell? ⟨w.heap.size, 0, none⟩ = some (.int .i64 (k : Int)) ∧ w'.cell? ⟨w.heap.size, 1, none⟩ = some (.slice A d.length c))) (by kernel_rfl) (by (try dsimp only); first | with_reducible exact ⟨n0, n1⟩ | with_reducible exact ⟨m0, m1⟩ | go_keep) (fun hHeld => ?_)
      refine wpAnyH_take (i := 0) (v := ?_) rfl (by kernel_rfl) (by kernel_rfl) (by kernel_rfl) (fun _ _ _ h => h) (Or.inl ⟨by rfl, ?_⟩) (by assumption) ?_
      rotate_left
      · (intro w hSw; (try dsimp only at hSw); go_simp; try with_reducible rfl)
      try simp only [Act.put, List.getElem_toArray, List.getElem_cons_zero, List.getElem_cons_succ, List.setIfInBounds_toArray, List.set_cons_zero, List.set_cons_succ]
      refine wpAnyH_take (i := 1) (v := ?_) rfl (by kernel_rfl) (by kernel_rfl) (by kernel_rfl) (fun _ _ _ h => h) (Or.inl ⟨by rfl, ?_⟩) (by assumption) ?_
      rotate_left
      · (intro w hSw; (try dsimp only at hSw); go_simp; try with_reducible rfl)
      try simp only [Act.put, List.getElem_toArray, List.getElem_cons_zero, List.getElem_cons_succ, List.setIfInBounds_toArray, List.set_cons_zero, List.set_cons_succ]
      refine wpAnyH_take (i := 2) (v := ?_) rfl (by kernel_rfl) (by kernel_rfl) (by kernel_rfl) (fun _ _ _ h => h) (Or.inl ⟨by rfl, ?_⟩) (by assumption) ?_
      rotate_left
      · (intro w hSw; (try dsimp only at hSw); go_simp; try with_reducible rfl)
      try simp only [Act.put, List.getElem_toArray, List.getElem_cons_zero, List.getElem_cons_succ, List.setIfInBounds_toArray, List.set_cons_zero, List.set_cons_succ]
      refine wpAnyH_take (i := 4) (v := ?_) rfl (by kernel_rfl) (by kernel_rfl) (by kernel_rfl) (fun _ _ _ h => h) (Or.inl ⟨by rfl, ?_⟩) (by assumption) ?_
      rotate_left
      · (intro w hSw; (try dsimp only at hSw); go_simp; try with_reducible rfl)
      try simp only [Act.put, List.getElem_toArray, List.getElem_cons_zero, List.getElem_cons_succ, List.setIfInBounds_toArray, List.set_cons_zero, List.set_cons_succ]
      refine wpAnyH_take (i := 5) (v := ?_) rfl (by kernel_rfl) (by kernel_rfl) (by kernel_rfl) (fun _ _ _ h => h) (Or.inl ⟨by rfl, ?_⟩) (by assumption) ?_
      rotate_left
      · (intro w hSw; (try dsimp only at hSw); go_simp; try with_reducible rfl)
      try simp only [Act.put, List.getElem_toArray, List.getElem_cons_zero, List.getElem_cons_succ, List.setIfInBounds_toArray, List.set_cons_zero, List.set_cons_succ]
      refine wpAnyH_take (i := 6) (v := ?_) rfl (by kernel_rfl) (by kernel_rfl) (by kernel_rfl) (fun _ _ _ h => h) (Or.inl ⟨by rfl, ?_⟩) (by assumption) ?_
      rotate_left
      · (intro w hSw; (try dsimp only at hSw); go_simp; try with_reducible rfl)
      try simp only [Act.put, List.getElem_toArray, List.getElem_cons_zero, List.getElem_cons_succ, List.setIfInBounds_toArray, List.set_cons_zero, List.set_cons_succ]
      refine wpAnyH_take (i := 7) (v := ?_) rfl (by kernel_rfl) (by kernel_rfl) (by kernel_rfl) (fun _ _ _ h => h) (Or.inl ⟨by rfl, ?_⟩) (by assumption) ?_
      rotate_left
      · (intro w hSw; (try dsimp only at hSw); go_simp; try with_reducible rfl)
      try simp only [Act.put, List.getElem_toArray, List.getElem_cons_zero, List.getElem_cons_succ, List.setIfInBounds_toArray, List.set_cons_zero, List.set_cons_succ]
      refine wpAnyH_ready (rs := [3, 8]) (by kernel_rfl) (by simp) ?_
      refine AllReadyH.cons rfl (fun K hK => ?_) ?_
      · go_simp
        refine hK.out _ _ (by (try dsimp only); first | with_reducible exact ⟨n0, n1⟩ | with_reducible exact ⟨m0, m1⟩ | go_keep) (fun hHeld => ?_)
        clear hK K
        try simp only [Act.put, List.getElem_toArray, List.getElem_cons_zero, List.getElem_cons_succ, List.setIfInBounds_toArray, List.set_cons_zero, List.set_cons_succ]
        refine wpAnyH_ready (rs := [8]) (by kernel_rfl) (by simp) ?_
        refine AllReadyH.cons rfl (fun K hK => ?_) AllReadyH.nil
        go_simp
        go_at_call 32
        refine (refNumA HSB.out (d := 4) rfl (by omega) d.length H64.out).mono ?_
        rintro e w2 ⟨A2, c2, rfl, hc2, hm2, h2⟩
        have hk := h2.drop.drop.blk
        have m0 : w2.cell? ⟨w.heap.size, 0, none⟩ = some (.int .i64 (k : Int)) := (by rw [hk.cell 0]; rfl)
        have m1 : w2.cell? ⟨w.heap.size, 1, none⟩ = some (.slice A d.length c) := (by rw [hk.cell 1]; rfl)
        have H2 := Lib.hid h2
        clear h2 hk
        refine hK.out _ _ (by (try dsimp only); first | with_reducible exact ⟨n0, n1⟩ | with_reducible exact ⟨m0, m1⟩ | go_keep) (fun hHeld => ?_)
        clear hK K
        try simp only [Act.put, List.getElem_toArray, List.getElem_cons_zero, List.getElem_cons_succ, List.setIfInBounds_toArray, List.set_cons_zero, List.set_cons_succ]
        refine wpAnyH_ready (rs := [9]) (by kernel_rfl) (by simp) ?_
        refine AllReadyH.cons rfl (fun K hK => ?_) AllReadyH.nil
        have H3 := Lib.hid H2.out.swap
        have hap := H3.out
        have hnum := hap.swap.ob
        obtain ⟨A2', c2', hv2, -, -, hrn, -⟩ := hnum.form
        simp only [Value.slice.injEq] at hv2
        obtain ⟨rfl, -, rfl⟩ := hv2
        have HRN := Lib.hid hrn
        have HOB := Lib.hid hap.ob
        clear hap hnum hrn
        refine step_append_bytes w2 (by rfl) _ _ 23 (by rfl) 0 5 i0 Tryd.underlying23 hi hz0 hz1 hz2 _ [k] (by rfl) HOB.out A2 c2 _ (enc 4 d.length) 4 (enc_length _ _) (by rfl) HRN.out (by show 1 + 4 ≤ 140737488355328; decide) (Nat.zero_le _) ?_
        intro v5 w5 hown5 hg5 hat5
        have h5 := (H3.out.grewOb hown5 hg5 hat5 (Nat.le_refl _)).swap.drop
        have hk := h5.swap.blk
        have n0 : w5.cell? ⟨w.heap.size, 0, none⟩ = some (.int .i64 (k : Int)) := (by rw [hk.cell 0]; rfl)
        have n1 : w5.cell? ⟨w.heap.size, 1, none⟩ = some (.slice A d.length c) := (by rw [hk.cell 1]; rfl)
        have H5 := Lib.hid h5
        clear h5 hk hown5 hg5 hat5 m0 m1 H2 H3 HRN HOB
        refine hK.out _ _ (by (try dsimp only); first | with_reducible exact ⟨n0, n1⟩ | with_reducible exact ⟨m0, m1⟩ | go_keep) (fun hHeld => ?_)
        clear hK K
        try simp only [Act.put, List.getElem_toArray, List.getElem_cons_zero, List.getElem_cons_succ, List.setIfInBounds_toArray, List.set_cons_zero, List.set_cons_succ]
        refine wpAnyH_take (i := 10) (v := ?_) rfl (by kernel_rfl) (by kernel_rfl) (by kernel_rfl) (fun _ _ _ h => h) (Or.inl ⟨by rfl, ?_⟩) (by assumption) ?_
        rotate_left
        · (intro w hSw; (try dsimp only at hSw); go_simp; try with_reducible rfl)
        try simp only [Act.put, List.getElem_toArray, List.getElem_cons_zero, List.getElem_cons_succ, List.setIfInBounds_toArray, List.set_cons_zero, List.set_cons_succ]
        refine wpAnyH_done (by kernel_rfl) ?_ _
        rw [HU8.out]
        go_wp2
        go_loopw [4, 5] (fun v i wr => ∃ j : Nat, j ≤ d.length ∧ i = .int .i64 j ∧ St Zf [ObA 5 v (enc 1 k ++ enc 4 d.length ++ d.take j), BlkA w.heap.size 25 #[.int .i64 (k : Int), .slice A d.length c]] w wr) (fun _ i _ => d.length - (intOf i).toNat)
        case atStart => exact ⟨0, Nat.zero_le _, rfl, by rw [HE1.out, List.take_zero, List.append_nil]; exact H5.out⟩
        case round =>
          obtain ⟨j, hj, rfl, hst⟩ := hrel
          have hbk := hst.swap.blk
          have r0 : wr.cell? ⟨w.heap.size, 0, none⟩ = some (.int .i64 (k : Int)) := by rw [hbk.cell 0]; rfl
          have r1 : wr.cell? ⟨w.heap.size, 1, none⟩ = some (.slice A d.length c) := by rw [hbk.cell 1]; rfl
          obtain ⟨Av, cv, rfl, hvc, hvm, hvr, -⟩ := hst.ob.form
          have HST := Lib.hid hst
          by_cases hlt : j < d.length
          · obtain ⟨bb, off, hA, -, hcell⟩ := (HR.out wr hst.bel).at_ hlt
            subst hA
            have hjb : (j : Int) < (d.length : Int) := by omega
            have HQ := Lib.hid hlt
            have HNB := Lib.hid (HRB.out.nth j)
            have HGL : Hid ((enc 1 k ++ enc 4 d.length ++ d.take j).length + 1 ≤ 140737488355328) := Lib.hid (by
              simp only [List.length_append, enc_length, List.length_take]
              have := HD.out
              omega)
            have HTK : Hid (enc 1 k ++ enc 4 d.length ++ d.take j ++ [nth d j] = enc 1 k ++ enc 4 d.length ++ d.take (j + 1)) := Lib.hid (by
              rw [take_succ_nth d j hlt]
              simp only [List.append_assoc])
            generalize hG : enc 1 k ++ enc 4 d.length ++ d.take j = G at *
            clear hst hbk hvr hvm hvc hj hG
            obtain ⟨gl, hgl⟩ : ∃ q, q = G.length := ⟨_, rfl⟩
            have hdl := HD.out
            go_wp2_with (at_builtin; refine wpList_append_lit8 _ rfl _ _ 23 rfl 0 5 i0 Tryd.underlying23 hi hz0 hz1 hz2 (.slice Av G.length cv) G (nth d j) (by rfl) HST.out.ob (by rfl) _ rfl HNB.out HGL.out (Nat.zero_le _) ?_; intro v9 w9 hown9 hg9 hat9; have h9 := HST.out.grewOb hown9 hg9 hat9 (by simp); rw [HTK.out] at h9; have H9 := Lib.hid h9; clear hown9 hg9 hat9 h9)
            go_roundw
            case rel => exact ⟨j + 1, HQ.out, by go_num, H9.out⟩
            case measure => simp [intOf]; omega
          · obtain rfl : j = d.length := by omega
            have hbd : enc 1 k ++ enc 4 d.length ++ d.take d.length = fbody k d := by rw [List.take_length]; rfl
            rw [hbd] at HST hvr hvc
            have hbl := fbody_len k d
            obtain ⟨y, hy⟩ : ∃ y, y = crc (fbody k d) := ⟨_, rfl⟩
            have HY := Lib.hid hy
            have hcl : y < 4294967296 := by rw [hy]; exact crc_lt (fbody_is k HRB.out)
            have HY64 : Hid (y < 18446744073709551616) := Lib.hid (by omega)
            have u3 : IntKind.u64.wrap (y : Int) = (y : Int) := by rw [IntKind.wrap_u64]; omega
            have HSum := Lib.hid (refSum_any Av cv _ (fbody k d) wr hvr (by rw [hbl]; have := HD.out; unfold maxLen; omega))
            rw [← HY.out] at HSum
            have HBL := Lib.hid hbl
            have hdl := HD.out
            rw [hbd]
            clear hst hbk hvr hvm hvc hj hlt hy hcl hbl hbd
            go_wp2_with fail
            refine HSum.out.mono ?_
            rintro e w6 ⟨rfl, rfl⟩
            go_wp2_with fail
            refine (refNumA HST.out (d := 4) rfl (by omega) y HY64.out).mono ?_
            rintro e w7 ⟨A7, c7, rfl, hc7, hm7, h7⟩
            have H7 := Lib.hid h7.swap
            clear h7 HSum HST
            go_wp2
            go_loopw [4, 7] (fun v i wr => ∃ j : Nat, j ≤ 4 ∧ i = .int .i64 j ∧ St Zf [ObA 5 v (fbody k d ++ (enc 4 y).take j), ObA 5 (.slice A7 4 c7) (enc 4 y), BlkA w.heap.size 25 #[.int .i64 (k : Int), .slice A d.length c]] w wr) (fun _ i _ => 4 - (intOf i).toNat)
            case atStart => exact ⟨0, Nat.zero_le _, rfl, by rw [List.take_zero, List.append_nil]; exact H7.out⟩
            case round =>
              obtain ⟨j, hj, rfl, hst⟩ := hrel
              obtain ⟨Av, cv, rfl, hvc, hvm, hvr, -⟩ := hst.ob.form
              obtain ⟨A7', c7', hv7, -, -, hr7, -⟩ := hst.swap.ob.form
              simp only [Value.slice.injEq] at hv7
              obtain ⟨rfl, -, rfl⟩ := hv7
              have HST := Lib.hid hst
              by_cases hlt : j < 4
              · obtain ⟨bb, off, rfl, -, hcell⟩ := hr7.at_ (k := j) (by rw [enc_length]; exact hlt)
                have hjb : (j : Int) < 4 := by omega
                have HQ := Lib.hid hlt
                have HNB := Lib.hid ((enc_bytes 4 y).nth j)
                have HGL : Hid ((fbody k d ++ (enc 4 y).take j).length + 1 ≤ 140737488355328) := Lib.hid (by
                  rw [List.length_append, HBL.out, List.length_take]
                  have := HD.out
                  omega)
                have HTK : Hid (fbody k d ++ (enc 4 y).take j ++ [nth (enc 4 y) j] = fbody k d ++ (enc 4 y).take (j + 1)) := Lib.hid (by
                  rw [take_succ_nth (enc 4 y) j (by rw [enc_length]; exact hlt)]
                  simp only [List.append_assoc])
                generalize hG : fbody k d ++ (enc 4 y).take j = G at *
                generalize hE : enc 4 y = E at *
                clear hst hvr hvm hvc hj hG hr7 hE
                go_wp2_with (at_builtin; refine wpList_append_lit8 _ rfl _ _ 23 rfl 0 5 i0 Tryd.underlying23 hi hz0 hz1 hz2 (.slice Av G.length cv) G (nth E j) (by rfl) HST.out.ob (by rfl) _ rfl HNB.out HGL.out (Nat.zero_le _) ?_; intro v9 w9 hown9 hg9 hat9; have h9 := HST.out.grewOb hown9 hg9 hat9 (by simp); rw [HTK.out] at h9; have H9 := Lib.hid h9; clear hown9 hg9 hat9 h9)
                go_roundw
                case rel => exact ⟨j + 1, HQ.out, by go_num, H9.out⟩
                case measure => simp [intOf]; omega
              · obtain rfl : j = 4 := by omega
                have hT : (enc 4 y).take 4 = enc 4 y := List.take_of_length_le (by rw [enc_length]; exact Nat.le_refl _)
                have HT2 : Hid (fbytes k d = fbody k d ++ (enc 4 y).take 4) := Lib.hid (by rw [HFB.out, hT, HY.out])
                have H8 := Lib.hid HST.out.swap.drop.swap.drop
                clear hst hvr hvm hvc hj hr7 hT HST
                go_wp2
                go_ret2
                refine ⟨_, rfl, ?_⟩
                rw [HT2.out]
                exact H8.out
      refine AllReadyH.cons rfl (fun K hK => ?_) AllReadyH.nil
      go_simp
      go_at_call 32
      refine (refNumA HSA.out (d := 4) rfl (by omega) d.length H64.out).mono ?_
      rintro e w2 ⟨A2, c2, rfl, hc2, hm2, h2⟩
      have hk := h2.drop.blk
      have m0 : w2.cell? ⟨w.heap.size, 0, none⟩ = some (.int .i64 (k : Int)) := (by rw [hk.cell 0]; rfl)
      have m1 : w2.cell? ⟨w.heap.size, 1, none⟩ = some (.slice A d.length c) := (by rw [hk.cell 1]; rfl)
      have H2 := Lib.hid h2
      clear h2 hk
      refine hK.out _ _ (by (try dsimp only); first | with_reducible exact ⟨n0, n1⟩ | with_reducible exact ⟨m0, m1⟩ | go_keep) (fun hHeld => ?_)
      clear hK K
      try simp only [Act.put, List.getElem_toArray, List.getElem_cons_zero, List.getElem_cons_succ, List.setIfInBounds_toArray, List.set_cons_zero, List.set_cons_succ]
      refine wpAnyH_ready (rs := [3]) (by kernel_rfl) (by simp) ?_
      refine AllReadyH.cons rfl (fun K hK => ?_) AllReadyH.nil
      go_simp
      refine hK.out _ _ (by (try dsimp only); first | with_reducible exact ⟨n0, n1⟩ | with_reducible exact ⟨m0, m1⟩ | go_keep) (fun hHeld => ?_)
      clear hK K
      try simp only [Act.put, List.getElem_toArray, List.getElem_cons_zero, List.getElem_cons_succ, List.setIfInBounds_toArray, List.set_cons_zero, List.set_cons_succ]
      refine wpAnyH_ready (rs := [9]) (by kernel_rfl) (by simp) ?_
      refine AllReadyH.cons rfl (fun K hK => ?_) AllReadyH.nil
      have H3 := Lib.hid (H2.out.litB 5 [k] HK1.out 1 rfl (by decide) #[.int .u8 (IntKind.u8.wrap (k : Int))] HLT.out _ rfl)
      have hap := H3.out
      have hnum := hap.swap.ob
      obtain ⟨A2', c2', hv2, -, -, hrn, -⟩ := hnum.form
      simp only [Value.slice.injEq] at hv2
      obtain ⟨rfl, -, rfl⟩ := hv2
      have HRN := Lib.hid hrn
      have HOB := Lib.hid hap.ob
      clear hap hnum hrn
      refine step_append_bytes (w2.alloc (.cells #[.int .u8 (IntKind.u8.wrap (k : Int))] 5)) (by rfl) _ _ 23 (by rfl) 0 5 i0 Tryd.underlying23 hi hz0 hz1 hz2 _ [k] (by rfl) HOB.out A2 c2 _ (enc 4 d.length) 4 (enc_length _ _) (by rfl) HRN.out (by show 1 + 4 ≤ 140737488355328; decide) (Nat.zero_le _) ?_
      intro v5 w5 hown5 hg5 hat5
      have h5 := (H3.out.grewOb hown5 hg5 hat5 (Nat.le_refl _)).swap.drop
      have hk := h5.swap.blk
      have n0 : w5.cell? ⟨w.heap.size, 0, none⟩ = some (.int .i64 (k : Int)) := (by rw [hk.cell 0]; rfl)
      have n1 : w5.cell? ⟨w.heap.size, 1, none⟩ = some (.slice A d.length c) := (by rw [hk.cell 1]; rfl)
      have H5 := Lib.hid h5
      clear h5 hk hown5 hg5 hat5 m0 m1 H2 H3 HRN HOB
      refine hK.out _ _ (by (try dsimp only); first | with_reducible exact ⟨n0, n1⟩ | with_reducible exact ⟨m0, m1⟩ | go_keep) (fun hHeld => ?_)
      clear hK K
      try simp only [Act.put, List.getElem_toArray, List.getElem_cons_zero, List.getElem_cons_succ, List.setIfInBounds_toArray, List.set_cons_zero, List.set_cons_succ]
      refine wpAnyH_take (i := 10) (v := ?_) rfl (by kernel_rfl) (by kernel_rfl) (by kernel_rfl) (fun _ _ _ h => h) (Or.inl ⟨by rfl, ?_⟩) (by assumption) ?_
      rotate_left
      · (intro w hSw; (try dsimp only at hSw); go_simp; try with_reducible rfl)
      try simp only [Act.put, List.getElem_toArray, List.getElem_cons_zero, List.getElem_cons_succ, List.setIfInBounds_toArray, List.set_cons_zero, List.set_cons_succ]
      refine wpAnyH_done (by kernel_rfl) ?_ _
      rw [HU8.out]
      go_wp2
      go_loopw [4, 5] (fun v i wr => ∃ j : Nat, j ≤ d.length ∧ i = .int .i64 j ∧ St Zf [ObA 5 v (enc 1 k ++ enc 4 d.length ++ d.take j), BlkA w.heap.size 25 #[.int .i64 (k : Int), .slice A d.length c]] w wr) (fun _ i _ => d.length - (intOf i).toNat)
      case atStart => exact ⟨0, Nat.zero_le _, rfl, by rw [HE1.out, List.take_zero, List.append_nil]; exact H5.out⟩
      case round =>
        obtain ⟨j, hj, rfl, hst⟩ := hrel
        have hbk := hst.swap.blk
        have r0 : wr.cell? ⟨w.heap.size, 0, none⟩ = some (.int .i64 (k : Int)) := by rw [hbk.cell 0]; rfl
        have r1 : wr.cell? ⟨w.heap.size, 1, none⟩ = some (.slice A d.length c) := by rw [hbk.cell 1]; rfl
        obtain ⟨Av, cv, rfl, hvc, hvm, hvr, -⟩ := hst.ob.form
        have HST := Lib.hid hst
        by_cases hlt : j < d.length
        · obtain ⟨bb, off, hA, -, hcell⟩ := (HR.out wr hst.bel).at_ hlt
          subst hA
          have hjb : (j : Int) < (d.length : Int) := by omega
          have HQ := Lib.hid hlt
          have HNB := Lib.hid (HRB.out.nth j)
          have HGL : Hid ((enc 1 k ++ enc 4 d.length ++ d.take j).length + 1 ≤ 140737488355328) := Lib.hid (by
            simp only [List.length_append, enc_length, List.length_take]
            have := HD.out
            omega)
          have HTK : Hid (enc 1 k ++ enc 4 d.length ++ d.take j ++ [nth d j] = enc 1 k ++ enc 4 d.length ++ d.take (j + 1)) := Lib.hid (by
            rw [take_succ_nth d j hlt]
            simp only [List.append_assoc])
          generalize hG : enc 1 k ++ enc 4 d.length ++ d.take j = G at *
          clear hst hbk hvr hvm hvc hj hG
          obtain ⟨gl, hgl⟩ : ∃ q, q = G.length := ⟨_, rfl⟩
          have hdl := HD.out
          go_wp2_with (at_builtin; refine wpList_append_lit8 _ rfl _ _ 23 rfl 0 5 i0 Tryd.underlying23 hi hz0 hz1 hz2 (.slice Av G.length cv) G (nth d j) (by rfl) HST.out.ob (by rfl) _ rfl HNB.out HGL.out (Nat.zero_le _) ?_; intro v9 w9 hown9 hg9 hat9; have h9 := HST.out.grewOb hown9 hg9 hat9 (by simp); rw [HTK.out] at h9; have H9 := Lib.hid h9; clear hown9 hg9 hat9 h9)
          go_roundw
          case rel => exact ⟨j + 1, HQ.out, by go_num, H9.out⟩
          case measure => simp [intOf]; omega
        · obtain rfl : j = d.length := by omega
          have hbd : enc 1 k ++ enc 4 d.length ++ d.take d.length = fbody k d := by rw [List.take_length]; rfl
          rw [hbd] at HST hvr hvc
          have hbl := fbody_len k d
          obtain ⟨y, hy⟩ : ∃ y, y = crc (fbody k d) := ⟨_, rfl⟩
          have HY := Lib.hid hy
          have hcl : y < 4294967296 := by rw [hy]; exact crc_lt (fbody_is k HRB.out)
          have HY64 : Hid (y < 18446744073709551616) := Lib.hid (by omega)
          have u3 : IntKind.u64.wrap (y : Int) = (y : Int) := by rw [IntKind.wrap_u64]; omega
          have HSum := Lib.hid (refSum_any Av cv _ (fbody k d) wr hvr (by rw [hbl]; have := HD.out; unfold maxLen; omega))
          rw [← HY.out] at HSum
          have HBL := Lib.hid hbl
          have hdl := HD.out
          rw [hbd]
          clear hst hbk hvr hvm hvc hj hlt hy hcl hbl hbd
          go_wp2_with fail
          refine HSum.out.mono ?_
          rintro e w6 ⟨rfl, rfl⟩
          go_wp2_with fail
          refine (refNumA HST.out (d := 4) rfl (by omega) y HY64.out).mono ?_
          rintro e w7 ⟨A7, c7, rfl, hc7, hm7, h7⟩
          have H7 := Lib.hid h7.swap
          clear h7 HSum HST
          go_wp2
          go_loopw [4, 7] (fun v i wr => ∃ j : Nat, j ≤ 4 ∧ i = .int .i64 j ∧ St Zf [ObA 5 v (fbody k d ++ (enc 4 y).take j), ObA 5 (.slice A7 4 c7) (enc 4 y), BlkA w.heap.size 25 #[.int .i64 (k : Int), .slice A d.length c]] w wr) (fun _ i _ => 4 - (intOf i).toNat)
          case atStart => exact ⟨0, Nat.zero_le _, rfl, by rw [List.take_zero, List.append_nil]; exact H7.out⟩
          case round =>
            obtain ⟨j, hj, rfl, hst⟩ := hrel
            obtain ⟨Av, cv, rfl, hvc, hvm, hvr, -⟩ := hst.ob.form
            obtain ⟨A7', c7', hv7, -, -, hr7, -⟩ := hst.swap.ob.form
            simp only [Value.slice.injEq] at hv7
            obtain ⟨rfl, -, rfl⟩ := hv7
            have HST := Lib.hid hst
            by_cases hlt : j < 4
            · obtain ⟨bb, off, rfl, -, hcell⟩ := hr7.at_ (k := j) (by rw [enc_length]; exact hlt)
              have hjb : (j : Int) < 4 := by omega
              have HQ := Lib.hid hlt
              have HNB := Lib.hid ((enc_bytes 4 y).nth j)
              have HGL : Hid ((fbody k d ++ (enc 4 y).take j).length + 1 ≤ 140737488355328) := Lib.hid (by
                rw [List.length_append, HBL.out, List.length_take]
                have := HD.out
                omega)
              have HTK : Hid (fbody k d ++ (enc 4 y).take j ++ [nth (enc 4 y) j] = fbody k d ++ (enc 4 y).take (j + 1)) := Lib.hid (by
                rw [take_succ_nth (enc 4 y) j (by rw [enc_length]; exact hlt)]
                simp only [List.append_assoc])
              generalize hG : fbody k d ++ (enc 4 y).take j = G at *
              generalize hE : enc 4 y = E at *
              clear hst hvr hvm hvc hj hG hr7 hE
              go_wp2_with (at_builtin; refine wpList_append_lit8 _ rfl _ _ 23 rfl 0 5 i0 Tryd.underlying23 hi hz0 hz1 hz2 (.slice Av G.length cv) G (nth E j) (by rfl) HST.out.ob (by rfl) _ rfl HNB.out HGL.out (Nat.zero_le _) ?_; intro v9 w9 hown9 hg9 hat9; have h9 := HST.out.grewOb hown9 hg9 hat9 (by simp); rw [HTK.out] at h9; have H9 := Lib.hid h9; clear hown9 hg9 hat9 h9)
              go_roundw
              case rel => exact ⟨j + 1, HQ.out, by go_num, H9.out⟩
              case measure => simp [intOf]; omega
            · obtain rfl : j = 4 := by omega
              have hT : (enc 4 y).take 4 = enc 4 y := List.take_of_length_le (by rw [enc_length]; exact Nat.le_refl _)
              have HT2 : Hid (fbytes k d = fbody k d ++ (enc 4 y).take 4) := Lib.hid (by rw [HFB.out, hT, HY.out])
              have H8 := Lib.hid HST.out.swap.drop.swap.drop
              clear hst hvr hvm hvc hj hr7 hT HST
              go_wp2
              go_ret2
              refine ⟨_, rfl, ?_⟩
              rw [HT2.out]
              exact H8.out
      -- END

end Go.Proofs.YtkdlehekignnhaaDoor
