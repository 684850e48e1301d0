/- Packed frames, one behind the other, are split again, and read again in whatever pieces. The table of nibbles stands as the program's text lays it (the card ties it). -/
import Derived.Test.YtkdlehekignnhaaDoorOpen
import Derived.Test.YtkdlehekignnhaaDoorCards
import Derived.Test.YtkdlehekignnhaaDoorTie
import Derived.Deep.DeepHandedRow
import Derived.Lib.LaidTab
import Derived.Test.YtkdlehekignnhaaDoorBulk
import Derived.Deep.CondSized
import Derived.Test.YtkdlehekignnhaaDoorFrRef3I
import Derived.Test.YtkdlehekignnhaaDoorFrFeed
import Derived.Test.YtkdlehekignnhaaDoorFrIds
import Derived.Test.YtkdlehekignnhaaDoorFrLaw
import Derived.Test.YtkdlehekignnhaaDoorFrOpens
import Derived.Test.YtkdlehekignnhaaDoorFr7
import Derived.Test.YtkdlehekignnhaaDoorBulk
namespace Go.Proofs.YtkdlehekignnhaaDoor.frameThere
open Go.ChangeShapes Go.WideShapes Go.ChangeAt Go.RowKit
open Go.ChangeMaps (open_string shut_string)
set_option linter.unusedVariables false
set_option linter.unusedSimpArgs false

theorem ofInt_i64T (a : Nat) (ha : a < 9223372036854775808) : (BitVec.ofInt 64 (a : Int)).toNat = a := by
  rw [BitVec.ofInt_natCast, BitVec.toNat_ofNat]; exact Nat.mod_eq_of_lt (by omega)
theorem mask_ofT (a : Int) (m : Nat) (hm : m ≤ 255) : ∃ n : Nat, n ≤ m ∧ bits .and .i64 a (m : Int) = (n : Int) := by
  refine ⟨(BitVec.ofInt 64 a).toNat &&& m, Nat.and_le_right, ?_⟩
  have hx : (BitVec.ofInt 64 a).toNat &&& m ≤ m := Nat.and_le_right
  show IntKind.i64.wrap ((BitVec.ofInt 64 a &&& BitVec.ofInt 64 (m : Int)).toNat : Int) = _
  rw [BitVec.toNat_and, ofInt_i64T m (by omega), IntKind.wrap_i64]
  omega
theorem rb_take {w : World} {B : Nat} {A : Option Addr} {b : List Nat} (h : RB w B A b) {n : Nat} (hn : n ≤ b.length) : RB w B A (b.take n) := by
  by_cases h0 : 0 < b.length
  · obtain ⟨bb, off, rfl, -, -⟩ := h.all h0
    have h1 := h.cut rfl 0 n hn (Nat.zero_le _)
    rw [List.drop_zero] at h1
    exact h1
  · rw [List.length_eq_zero_iff.1 (show b.length = 0 by omega), List.take_nil]
    exact RB.nilE _ _ _
def fiF (o : Fi) : Nat × List Nat := (o.t.toNat, o.d)
def FiOk (o : Fi) : Prop := 0 ≤ o.t ∧ o.t ≤ 255 ∧ o.d.length ≤ 1048576 ∧ IsBytes o.d
theorem FiOk.f {o : Fi} (h : FiOk o) : OkF (fiF o) := ⟨by have := h.1; have := h.2.1; show o.t.toNat < 256; omega, h.2.2.1, h.2.2.2⟩
theorem fis_sum : ∀ L : List Fi, 2 * L.length ≤ (L.map fun o => o.d.length + 2).sum ∧ (∀ o ∈ L, o.d.length + 2 ≤ (L.map fun o => o.d.length + 2).sum) ∧ (flatF (L.map fiF)).length ≤ 9 * (L.map fun o => o.d.length + 2).sum
  | [] => ⟨Nat.le_refl _, (fun o h => by cases h), Nat.zero_le _⟩
  | x :: l => by
    obtain ⟨h1, h2, h3⟩ := fis_sum l
    simp only [List.map_cons, List.sum_cons, List.length_cons]
    refine ⟨by omega, fun o ho => ?_, ?_⟩
    · rcases List.mem_cons.1 ho with rfl | ho
      · omega
      · have := h2 o ho; omega
    · show (fbytes (fiF x).1 (fiF x).2 ++ flatF (l.map fiF)).length ≤ _
      rw [List.length_append, fbytes_len]
      show 9 + x.d.length + _ ≤ _
      omega
theorem take_snoc {α : Type} {L : List α} {k : Nat} {o : α} (h : L[k]? = some o) : L.take (k + 1) = L.take k ++ [o] := by
  rw [List.take_add_one, h]
  rfl
theorem flat_take (L : List Fi) (k : Nat) : (flatF ((L.take k).map fiF)).length ≤ 9 * (L.map fun o => o.d.length + 2).sum := by
  have h := (fis_sum (L.take k)).2.2
  have h2 : ∀ a b : List Fi, (a.map fun o => o.d.length + 2).sum ≤ ((a ++ b).map fun o => o.d.length + 2).sum := fun a b => by
    rw [List.map_append, List.sum_append]
    omega
  have h3 := h2 (L.take k) (L.drop k)
  rw [List.take_append_drop] at h3
  omega
set_option maxRecDepth 100000 in
set_option maxHeartbeats 300000 in
theorem walk (w : World) (hT : TabW w) {A : Option Addr} {L : List Fi} {c : Nat} (hx : FisR w w.heap.size A L ∧ (L.map fun o => o.d.length + 2).sum ≤ 1048576) {A' : Option Addr} {O : List Int} {c' : Nat} (hy : RL ivl w w.heap.size A' O ∧ O.length * 8 ≤ 140737488351232) :
    Calls Tryd.prog 8 #[.slice A L.length c, .slice A' O.length c'] w fun e w' => e = .returned (.bool true) ∧ Below w.heap.size w w' := by
  obtain ⟨hx1, hx2⟩ := hx
  obtain ⟨hy1, hy2⟩ := hy
  have HT := Lib.hid hT
  have HX := Lib.hid hx1
  have HO := Lib.hid hy1
  have HOL := Lib.hid hy2
  have HSU : Hid (L.length ≤ 524288 ∧ (∀ o ∈ L, o.d.length ≤ 1048574) ∧ (∀ k, (flatF ((L.take k).map fiF)).length ≤ 9437184)) := Lib.hid (by
    obtain ⟨h1, h2, -⟩ := fis_sum L
    refine ⟨by omega, fun o ho => by have := h2 o ho; omega, fun k => by have := flat_take L k; omega⟩)
  obtain ⟨N, hN⟩ : ∃ N, L.length = N := ⟨_, rfl⟩
  have HN := Lib.hid hN
  have hNm : N ≤ 524288 := by rw [← hN]; exact HSU.out.1
  obtain ⟨i0, hi, hz0, hz1, hz2⟩ := info_parts u8_info
  rw [hN]
  clear hx1 hx2 hy1 hy2 hN
  go_enter Tryd.func8, Tryd.ntmps8
  go_wp2_with fail
  refine (speaks19_any _ hT).mono ?_
  rintro e w1 ⟨rfl, hb1⟩
  have h1 := ((St.start Zf w).below hb1).litB 5 [] IsBytes.nil 0 rfl (by unfold maxLen; omega) #[] rfl _ rfl
  have H1 := Lib.hid h1
  clear h1 hb1 hT
  go_wp2_with fail
  go_loopw [5, 28] (fun v i wr => ∃ k : Nat, k ≤ N ∧ i = .int .i64 k ∧ (∀ o ∈ L.take k, FiOk o) ∧ St Zf [ObA 5 v (flatF ((L.take k).map fiF))] w wr) (fun _ i _ => N - (intOf i).toNat)
  case atStart => exact ⟨0, Nat.zero_le _, rfl, (fun o ho => by simp at ho), H1.out⟩
  case round =>
    obtain ⟨k, hk, rfl, hok, hst⟩ := hrel
    have HOK := Lib.hid hok
    have HST := Lib.hid hst
    clear H1
    by_cases hlt : k < N
    · obtain ⟨o, ho⟩ : ∃ o, L[k]? = some o := ⟨_, List.getElem?_eq_getElem (by rw [HN.out]; exact hlt)⟩
      obtain ⟨b, off, rfl, hbw, A0, c0, r0, r1, rr, rl1, rl2, rt⟩ := HX.out.below hst.bel k o ho
      have HRR : Hid (∀ w', Below w.heap.size w w' → RB w' w.heap.size A0 o.d) := Lib.hid fun w' h => by
        obtain ⟨b', off', e', -, A0', c0', -, r1', rr', -⟩ := HX.out.below h k o ho
        simp only [Option.some.injEq, Addr.mk.injEq] at e'
        obtain ⟨rfl, rfl, -⟩ := e'
        obtain ⟨b', off', e', -, A0'', c0'', -, r1'', -⟩ := HX.out k o ho
        simp only [Option.some.injEq, Addr.mk.injEq] at e'
        obtain ⟨rfl, rfl, -⟩ := e'
        have e1 := (hst.bel.cell (p := ⟨b, off + k * 2 + 1, none⟩) hbw).symm.trans r1
        have e2 := (h.cell (p := ⟨b, off + k * 2 + 1, none⟩) hbw).symm.trans r1'
        rw [e1] at e2
        simp only [Option.some.injEq, Value.slice.injEq] at e2
        rw [e2.1]
        exact rr'
      have hdl := HSU.out.2.1 o (List.mem_of_getElem? ho)
      have HD : Hid (o.d.length ≤ 140737488351232) := Lib.hid (by omega)
      have HDL := Lib.hid hdl
      have HOO := Lib.hid ho
      obtain ⟨n, hn⟩ : ∃ n, o.d.length = n := ⟨_, rfl⟩
      have HNL := Lib.hid hn
      have hlt2 : (k : Int) < (N : Int) := by omega
      rw [hn] at r1 rl1 hdl
      obtain ⟨W, hW⟩ : ∃ W, W = flatF ((L.take k).map fiF) := ⟨_, rfl⟩
      have HW := Lib.hid hW
      rw [← hW] at hst
      obtain ⟨m, hm⟩ : ∃ m, W.length = m := ⟨_, rfl⟩
      have HM := Lib.hid hm
      have hmm : m ≤ 9437184 := by rw [← hm, hW]; exact HSU.out.2.2 k
      obtain ⟨Av, cv, rfl, -, -, -⟩ := hst.obForm hm
      have h2 := hst.newBlk 25 #[.int .i64 o.t, .slice A0 n c0]
      obtain ⟨w2, hw2⟩ : ∃ w2, w2 = wr.alloc (.cells #[.int .i64 o.t, .slice A0 n c0] 25) := ⟨_, rfl⟩
      rw [← hw2] at h2
      have H2 := Lib.hid h2
      have hcl := cloneA h2.drew (cap := c0) (HRR.out _ h2.drew.bel) h2.drew.size (by omega)
      rw [hn] at hcl
      have HCL := Lib.hid hcl
      obtain ⟨z0, z1⟩ := cells2 h2
      have HW2 := Lib.hid hw2
      clear hst hok rr ho hn hcl h2 hw2 rl1 rl2 hbw hm hW HST
      go_wp2_with fail
      rw [← HW2.out]
      refine wp_region_held_drew (S := (fun w' => w'.cell? ⟨wr.heap.size, 0, none⟩ = some (.int .i64 o.t) ∧ w'.cell? ⟨wr.heap.size, 1, none⟩ = some (.slice A0 n c0))) (by kernel_rfl) (by (try dsimp only); first | with_reducible exact ⟨n0, n1⟩ | with_reducible exact ⟨m0, m1⟩ | with_reducible exact ⟨z0, z1⟩ | go_keep) (fun hHeld => ?_)
      refine wpAnyH_take (i := 0) (v := ?_) rfl (by kernel_rfl) (by kernel_rfl) (by kernel_rfl) (fun _ _ _ h => h) (Or.inl ⟨by rfl, ?_⟩) (by assumption) ?_
      rotate_left
      · (intro w hSw; (try dsimp only at hSw); go_simp; try with_reducible rfl)
      try simp only [Act.put, List.getElem_toArray, List.getElem_cons_zero, List.getElem_cons_succ, List.setIfInBounds_toArray, List.set_cons_zero, List.set_cons_succ]
      refine wpAnyH_take (i := 1) (v := ?_) rfl (by kernel_rfl) (by kernel_rfl) (by kernel_rfl) (fun _ _ _ h => h) (Or.inl ⟨by rfl, ?_⟩) (by assumption) ?_
      rotate_left
      · (intro w hSw; (try dsimp only at hSw); go_simp; try with_reducible rfl)
      try simp only [Act.put, List.getElem_toArray, List.getElem_cons_zero, List.getElem_cons_succ, List.setIfInBounds_toArray, List.set_cons_zero, List.set_cons_succ]
      refine wpAnyH_take (i := 2) (v := ?_) rfl (by kernel_rfl) (by kernel_rfl) (by kernel_rfl) (fun _ _ _ h => h) (Or.inl ⟨by rfl, ?_⟩) (by assumption) ?_
      rotate_left
      · (intro w hSw; (try dsimp only at hSw); go_simp; try with_reducible rfl)
      try simp only [Act.put, List.getElem_toArray, List.getElem_cons_zero, List.getElem_cons_succ, List.setIfInBounds_toArray, List.set_cons_zero, List.set_cons_succ]
      refine wpAnyH_take (i := 3) (v := ?_) rfl (by kernel_rfl) (by kernel_rfl) (by kernel_rfl) (fun _ _ _ h => h) (Or.inl ⟨by rfl, ?_⟩) (by assumption) ?_
      rotate_left
      · (intro w hSw; (try dsimp only at hSw); go_simp; try with_reducible rfl)
      try simp only [Act.put, List.getElem_toArray, List.getElem_cons_zero, List.getElem_cons_succ, List.setIfInBounds_toArray, List.set_cons_zero, List.set_cons_succ]
      refine wpAnyH_ready (rs := [4]) (by kernel_rfl) (by simp) ?_
      refine AllReadyH.cons rfl (fun K hK => ?_) AllReadyH.nil
      go_simp
      go_at_call 12
      refine HCL.out.mono ?_
      rintro e w4 ⟨A4, c4, rfl, hc4, hm4, h4⟩
      have hk := h4.drop.blk
      have m0 : w4.cell? ⟨wr.heap.size, 0, none⟩ = some (.int .i64 o.t) := (by rw [hk.cell 0]; rfl)
      have m1 : w4.cell? ⟨wr.heap.size, 1, none⟩ = some (.slice A0 n c0) := (by rw [hk.cell 1]; rfl)
      have H4 := Lib.hid h4
      have hpk := Pack_any o.t A4 c4 _ o.d w4 (HT.out.below H4.out.bel HT.out.1) H4.out.obR.2.2.2 (Nat.le_refl _) HD.out
      rw [HNL.out] at hpk
      have HPK := Lib.hid hpk
      clear h4 hk hpk HCL
      refine hK.out _ _ (by (try dsimp only); first | with_reducible exact ⟨n0, n1⟩ | with_reducible exact ⟨m0, m1⟩ | with_reducible exact ⟨z0, z1⟩ | go_keep) (fun hHeld => ?_)
      clear hK K
      try simp only [Act.put, List.getElem_toArray, List.getElem_cons_zero, List.getElem_cons_succ, List.setIfInBounds_toArray, List.set_cons_zero, List.set_cons_succ]
      refine wpAnyH_take (i := 5) (v := ?_) rfl (by kernel_rfl) (by kernel_rfl) (by kernel_rfl) (fun _ _ _ h => h) (Or.inl ⟨by rfl, ?_⟩) (by assumption) ?_
      rotate_left
      · (intro w hSw; (try dsimp only at hSw); go_simp; try with_reducible rfl)
      try simp only [Act.put, List.getElem_toArray, List.getElem_cons_zero, List.getElem_cons_succ, List.setIfInBounds_toArray, List.set_cons_zero, List.set_cons_succ]
      refine wpAnyH_ready (rs := [6]) (by kernel_rfl) (by simp) ?_
      refine AllReadyH.cons rfl (fun K hK => ?_) AllReadyH.nil
      go_simp
      go_at_call 13
      refine HPK.out.mono ?_
      rintro e w5 ⟨v5, rfl, h5⟩
      have h6 := H4.out.addStL h5
      have hk := h6.drop.drop.blk
      have n0 : w5.cell? ⟨wr.heap.size, 0, none⟩ = some (.int .i64 o.t) := (by rw [hk.cell 0]; rfl)
      have n1 : w5.cell? ⟨wr.heap.size, 1, none⟩ = some (.slice A0 n c0) := (by rw [hk.cell 1]; rfl)
      have H6 := Lib.hid h6
      clear h5 h6 hk m0 m1 H4 HPK
      refine hK.out _ _ (by (try dsimp only); first | with_reducible exact ⟨n0, n1⟩ | with_reducible exact ⟨m0, m1⟩ | with_reducible exact ⟨z0, z1⟩ | go_keep) (fun hHeld => ?_)
      clear hK K
      try simp only [Act.put, List.getElem_toArray, List.getElem_cons_zero, List.getElem_cons_succ, List.setIfInBounds_toArray, List.set_cons_zero, List.set_cons_succ]
      refine wpAnyH_take (i := 7) (v := ?_) rfl (by kernel_rfl) (by kernel_rfl) (by kernel_rfl) (fun _ _ _ h => h) (Or.inl ⟨by rfl, ?_⟩) (by assumption) ?_
      rotate_left
      · (intro w hSw; (try dsimp only at hSw); go_simp; try with_reducible rfl)
      try simp only [Act.put, List.getElem_toArray, List.getElem_cons_zero, List.getElem_cons_succ, List.setIfInBounds_toArray, List.set_cons_zero, List.set_cons_succ]
      refine wpAnyH_take (i := 8) (v := ?_) rfl (by kernel_rfl) (by kernel_rfl) (by kernel_rfl) (fun _ _ _ h => h) (Or.inl ⟨by rfl, ?_⟩) (by assumption) ?_
      rotate_left
      · (intro w hSw; (try dsimp only at hSw); go_simp; try with_reducible rfl)
      try simp only [Act.put, List.getElem_toArray, List.getElem_cons_zero, List.getElem_cons_succ, List.setIfInBounds_toArray, List.set_cons_zero, List.set_cons_succ]
      refine wpAnyH_take (i := 9) (v := ?_) rfl (by kernel_rfl) (by kernel_rfl) (by kernel_rfl) (fun _ _ _ h => h) (Or.inl ⟨by rfl, ?_⟩) (by assumption) ?_
      rotate_left
      · (intro w hSw; (try dsimp only at hSw); go_simp; try with_reducible rfl)
      try simp only [Act.put, List.getElem_toArray, List.getElem_cons_zero, List.getElem_cons_succ, List.setIfInBounds_toArray, List.set_cons_zero, List.set_cons_succ]
      refine wpAnyH_take (i := 10) (v := ?_) rfl (by kernel_rfl) (by kernel_rfl) (by kernel_rfl) (fun _ _ _ h => h) (Or.inl ⟨by rfl, ?_⟩) (by assumption) ?_
      rotate_left
      · (intro w hSw; (try dsimp only at hSw); go_simp; try with_reducible rfl)
      try simp only [Act.put, List.getElem_toArray, List.getElem_cons_zero, List.getElem_cons_succ, List.setIfInBounds_toArray, List.set_cons_zero, List.set_cons_succ]
      refine wpAnyH_take (i := 11) (v := ?_) rfl (by kernel_rfl) (by kernel_rfl) (by kernel_rfl) (fun _ _ _ h => h) (Or.inl ⟨by rfl, ?_⟩) (by assumption) ?_
      rotate_left
      · (intro w hSw; (try dsimp only at hSw); go_simp; try with_reducible rfl)
      try simp only [Act.put, List.getElem_toArray, List.getElem_cons_zero, List.getElem_cons_succ, List.setIfInBounds_toArray, List.set_cons_zero, List.set_cons_succ]
      refine wpAnyH_done (by kernel_rfl) ?_ _
      have HE := Lib.hid H6.out.bel
      by_cases hneg : o.t < 0
      · have hpe : packErr o.t o.d = 2 := if_pos (.inl hneg)
        rw [hpe]
        clear hpe H6
        go_wp2_with fail
        go_ret
        exact ⟨rfl, HE.out⟩
      · by_cases hbig : 255 < o.t
        · have hpe : packErr o.t o.d = 2 := if_pos (.inr hbig)
          rw [hpe]
          clear hpe H6
          go_wp2_with fail
          go_ret
          exact ⟨rfl, HE.out⟩
        · have hpe : packErr o.t o.d = 0 := by
            unfold packErr
            rw [if_neg (by omega), if_neg (by have := HDL.out; omega)]
          have hpb : packB o.t o.d = fbytes o.t.toNat o.d := if_pos hpe
          have HOKN : Hid (∀ q ∈ L.take (k + 1), FiOk q) := Lib.hid (by
            rw [take_snoc HOO.out]
            intro q hq
            rcases List.mem_append.1 hq with hq | hq
            · exact HOK.out q hq
            · rw [List.mem_singleton.1 hq]
              exact ⟨by omega, by omega, by have := HDL.out; omega, (HRR.out _ (Below.refl _ _)).1⟩)
          have HWN : Hid (flatF ((L.take (k + 1)).map fiF) = W ++ fbytes o.t.toNat o.d) := Lib.hid (by
            rw [take_snoc HOO.out, List.map_append]
            show flatF ((L.take k).map fiF ++ [fiF o]) = _
            rw [flatF_snoc, ← HW.out]
            rfl)
          have h7 := H6.out
          rw [hpb] at h7
          have hfl : (fbytes o.t.toNat o.d).length = 9 + n := by rw [fbytes_len, HNL.out]
          have HFL := Lib.hid hfl
          obtain ⟨A5, c5, rfl, -, -, hr5⟩ := h7.obForm hfl
          have HR5 := Lib.hid hr5
          have H7 := Lib.hid h7.bring3
          rw [hpe]
          clear hpe hpb h7 hfl hr5 H6 hneg hbig n0 n1 HOO HRR
          go_wp2_with (at_builtin; refine wpList_append_bytes _ rfl _ _ 23 rfl 0 5 i0 Tryd.underlying23 hi hz0 hz1 hz2 (.slice Av m cv) W (by rfl) H7.out.ob A5 c5 _ (fbytes o.t.toNat o.d) (9 + n) HFL.out (by rfl) HR5.out (by rw [HM.out]; omega) (Nat.zero_le _) ?_; intro v8 w8 hown8 hg8 hat8; have h8 := H7.out.grewOb hown8 hg8 hat8 (Nat.le_refl _); have H8 := Lib.hid h8.swap.drop.swap.drop.swap.drop; clear hown8 hg8 hat8 h8)
          go_roundw
          case rel => exact ⟨k + 1, by omega, by go_num, HOKN.out, by rw [HWN.out]; exact H8.out⟩
          case measure => simp [intOf]; omega
    · obtain rfl : k = N := by omega
      obtain ⟨LF, hLF⟩ : ∃ LF, LF = L.map fiF := ⟨_, rfl⟩
      have hall : ∀ o ∈ L, FiOk o := by
        have h := HOK.out
        rw [← HN.out, List.take_length] at h
        exact h
      have HALL := Lib.hid hall
      have HLF := Lib.hid hLF
      have HOF : Hid (∀ f ∈ LF, OkF f) := Lib.hid (by
        rw [hLF]
        intro f hf
        obtain ⟨o, ho, rfl⟩ := List.mem_map.1 hf
        exact (hall o ho).f)
      obtain ⟨W, hW⟩ : ∃ W, W = flatF LF := ⟨_, rfl⟩
      have HW := Lib.hid hW
      have hWe : flatF ((L.take k).map fiF) = W := by rw [hW, hLF, ← HN.out, List.take_length]
      obtain ⟨m, hm⟩ : ∃ m, W.length = m := ⟨_, rfl⟩
      have HM := Lib.hid hm
      have hmm : m ≤ 9437184 := by rw [← hm, ← hWe]; exact HSU.out.2.2 k
      rw [hWe] at hst
      have HFRS : Hid (frs W = (LF, 0)) := Lib.hid (by rw [hW]; exact frs_flat LF HOF.out)
      obtain ⟨Av, cv, rfl, hmc, hcm, hr⟩ := hst.obForm hm
      have H2 := Lib.hid hst
      have hcl := cloneA hst (cap := cv) hr (Nat.le_refl _) (by rw [hm]; omega)
      rw [hm] at hcl
      have HCL := Lib.hid hcl
      clear hst hok hLF hall hW hWe hm hr hcl HST HOK hlt hk
      go_wp2_with fail
      refine HCL.out.mono ?_
      rintro e w3 ⟨A3, c3, rfl, hc3, hm3, h4⟩
      have hsp := Split_any A3 c3 _ W w3 (HT.out.below h4.bel HT.out.1) (by have := h4.obR; exact this.2.2.2) (Nat.le_refl _) (by rw [HM.out]; exact hc3) hm3 (by rw [HM.out]; omega)
      unfold SplitW at hsp
      rw [HM.out, HFRS.out] at hsp
      have HSP := Lib.hid hsp
      have H4 := Lib.hid h4
      clear h4 hsp hc3 hm3 H2 HCL
      go_wp2_with fail
      refine HSP.out.mono ?_
      rintro e w5 ⟨v5, X5, rfl, h5, hX5⟩
      have hX5 : X5.map Fq.f = LF := hX5
      have h6 := H4.out.addStL h5
      have hXl : X5.length = k := by rw [← HN.out, ← List.length_map (f := Fq.f), hX5, HLF.out, List.length_map]
      have hsa := refSameAll_in (cx' := c) h6 (HX.out.below h6.bel) h6.size (by rw [hX5, HLF.out]; rfl) (fun o ho => (HALL.out o ho).1) (by omega)
      rw [HN.out] at hsa
      have HSA := Lib.hid hsa
      have H6 := Lib.hid h6
      clear h5 h6 hX5 hXl hsa H4 HSP
      go_wp2_with fail
      refine HSA.out.mono ?_
      rintro e w7 ⟨rfl, hb7⟩
      have h8 := (H6.out.below hb7).drop.drop
      have HNR := Lib.hid (NewReader_any h8)
      clear h8 hb7 H6 HSA
      go_wp2_with fail
      refine HNR.out.mono ?_
      rintro e w9 ⟨g, rfl, h9⟩
      have H9 := Lib.hid h9
      have HF0 : Hid (FedL LF [] [] W) := Lib.hid (by rw [HW.out]; exact FedL.nil LF)
      clear h9 HNR
      go_wp2_with fail
      go_loopw [13, 81] (fun a i wr => ∃ (j q : Nat) (bs : List Nat) (Fs : List (Nat × List Nat)), j ≤ O.length ∧ q ≤ m ∧ a = .int .i64 q ∧ i = .int .i64 j ∧ FedL LF bs Fs (W.drop q) ∧ St Zf [RdrA g bs Fs 0, ObA 5 (.slice Av m cv) W] w wr) (fun _ i _ => O.length - (intOf i).toNat)
      case atStart => exact ⟨0, 0, [], [], Nat.zero_le _, Nat.zero_le _, rfl, rfl, HF0.out, H9.out⟩
      case round =>
        obtain ⟨j, q, bs, Fs, hj, hq, rfl, rfl, hfed, hst⟩ := hrel
        clear H9 HF0
        have HFD := Lib.hid hfed
        have HST := Lib.hid hst
        by_cases hlt : j < O.length
        · obtain ⟨bo, off, rfl, -, hcs⟩ := (hst.rl HO.out (Nat.le_refl _)).allI (by omega)
          have hc := hcs j hlt
          obtain ⟨y, hy⟩ : ∃ y, y = nthI O j := ⟨_, rfl⟩
          rw [← hy] at hc
          obtain ⟨x, hx, ex⟩ : ∃ n : Nat, n ≤ 63 ∧ bits .and .i64 y 63 = (n : Int) := mask_ofT y 63 (by decide)
          have hjI : (j : Int) < (O.length : Int) := by omega
          have hOl : O.length ≤ 17592186044416 := by have := HOL.out; omega
          have hmq : (m : Int) - (q : Int) = ((m - q : Nat) : Int) := by omega
          clear hcs hst hy hfed
          have hAll : ∀ n : Nat, q + n ≤ m → ((q : Int) + (n : Int)).toNat - q = n := fun n h => by omega
          have HNX : Hid (∀ n : Nat, q + n ≤ m → ((W.drop q).take n).length = n ∧ W.drop q = (W.drop q).take n ++ W.drop (q + n)) := Lib.hid fun n h => ⟨by rw [List.length_take, List.length_drop, HM.out]; omega, by rw [← List.drop_drop, List.take_append_drop]⟩
          have HFE : Hid (∀ (n : Nat) (A4 : Option Addr) (c4 : Nat) (w4 : World), q + n ≤ m → St Zf [ObA 5 (.slice A4 n c4) ((W.drop q).take n), RdrA g bs Fs 0, ObA 5 (.slice Av m cv) W] w w4 →
              Calls Tryd.prog 24 #[.pointer (some ⟨g, 0, none⟩), .slice A4 n c4] w4 fun e w' => e = .returned (.int .i64 0) ∧ ∃ bs' Fs', FedL LF bs' Fs' (W.drop (q + n)) ∧ St Zf [RdrA g bs' Fs' 0, ObA 5 (.slice Av m cv) W] w w') := Lib.hid fun n A4 c4 w4 h h4 => by
            obtain ⟨hl, he⟩ := HNX.out n h
            have hfd := HFD.out
            rw [he] at hfd
            obtain ⟨g1, g2⟩ := hfd.step HOF.out
            obtain ⟨l1, l2⟩ := hfd.len
            rw [List.length_append, hl, ← HW.out, HM.out] at l2
            have l3 : LF.length = k := by rw [HLF.out, List.length_map, HN.out]
            have hf := Feed_any (c := c4) HT.out h4.swap (h4.obR).2.2.2 (by rw [hl]; omega) (by omega)
            rw [hl, g1] at hf
            refine hf.mono ?_
            rintro e w' ⟨rfl, h5⟩
            exact ⟨rfl, _, _, g2, h5.swap.drop⟩
          by_cases hcap : cv = q
          · subst hcap
            have hm0 : m - cv = 0 := by omega
            by_cases hxm : (x : Int) ≤ (m : Int) - (cv : Int)
            · obtain rfl : x = 0 := by omega
              have hnm : cv + 0 ≤ m := by omega
              have hlen := hAll 0 hnm
              have hcl := cloneA HST.out (cap := 0) (bs := (W.drop cv).take 0) (A := Av) (by rw [List.take_zero]; exact RB.nilE _ _ _) (Nat.le_refl _) (by rw [(HNX.out _ hnm).1]; omega)
              rw [(HNX.out _ hnm).1] at hcl
              have HCL := Lib.hid hcl
              clear hcl
              go_wp2_with fail
              try rw [hlen]
              refine HCL.out.mono ?_
              rintro e w4 ⟨A4, c4, rfl, -, -, h4⟩
              have HFF := Lib.hid (HFE.out _ A4 c4 w4 hnm h4)
              clear h4 HCL HFE
              go_wp2_with fail
              refine HFF.out.mono ?_
              rintro e w5 ⟨rfl, bs5, Fs5, hf5, h5⟩
              have H5 := Lib.hid h5
              have HF5 := Lib.hid hf5
              clear h5 hf5 HFF HNX HFD HST
              go_wp2_with fail
              go_roundw
              case rel => exact ⟨j + 1, cv + 0, bs5, Fs5, by omega, hnm, by go_num, by go_num, HF5.out, H5.out⟩
              case measure => simp [intOf]; omega
            · have hnm : cv + 0 ≤ m := by omega
              have hlen := hAll 0 hnm
              have hcl := cloneA HST.out (cap := 0) (bs := (W.drop cv).take 0) (A := Av) (by rw [List.take_zero]; exact RB.nilE _ _ _) (Nat.le_refl _) (by rw [(HNX.out _ hnm).1]; omega)
              rw [(HNX.out _ hnm).1] at hcl
              have HCL := Lib.hid hcl
              clear hcl
              go_wp2_with fail
              try rw [hlen]
              refine HCL.out.mono ?_
              rintro e w4 ⟨A4, c4, rfl, -, -, h4⟩
              have HFF := Lib.hid (HFE.out _ A4 c4 w4 hnm h4)
              clear h4 HCL HFE
              go_wp2_with fail
              refine HFF.out.mono ?_
              rintro e w5 ⟨rfl, bs5, Fs5, hf5, h5⟩
              have H5 := Lib.hid h5
              have HF5 := Lib.hid hf5
              clear h5 hf5 HFF HNX HFD HST
              go_wp2_with fail
              go_roundw
              case rel => exact ⟨j + 1, cv + 0, bs5, Fs5, by omega, hnm, by go_num, by go_num, HF5.out, H5.out⟩
              case measure => simp [intOf]; omega
          · have HCC := Lib.hid hcap
            by_cases hxm : (x : Int) ≤ (m : Int) - (q : Int)
            · obtain ⟨n, rfl⟩ : ∃ n, n = x := ⟨_, rfl⟩
              have hnm : q + n ≤ m := by omega
              have hlen := hAll n hnm
              have hcl := cloneA HST.out (cap := cv - q) (bs := (W.drop q).take n) (A := Av.map fun y => y.add q) (by have h := (HST.out.drop.obR.2.2.2).dropM (k := q) (by rw [HM.out]; exact hq); exact rb_take h (by rw [List.length_drop, HM.out]; omega)) (Nat.le_refl _) (by rw [(HNX.out _ hnm).1]; omega)
              rw [(HNX.out _ hnm).1] at hcl
              have HCL := Lib.hid hcl
              clear hcl
              go_wp2_with fail
              try rw [hlen]
              refine HCL.out.mono ?_
              rintro e w4 ⟨A4, c4, rfl, -, -, h4⟩
              have HFF := Lib.hid (HFE.out _ A4 c4 w4 hnm h4)
              clear h4 HCL HFE
              go_wp2_with fail
              refine HFF.out.mono ?_
              rintro e w5 ⟨rfl, bs5, Fs5, hf5, h5⟩
              have H5 := Lib.hid h5
              have HF5 := Lib.hid hf5
              clear h5 hf5 HFF HNX HFD HST
              go_wp2_with fail
              go_roundw
              case rel => exact ⟨j + 1, q + n, bs5, Fs5, by omega, hnm, by go_num, by go_num, HF5.out, H5.out⟩
              case measure => simp [intOf]; omega
            · have hnm : q + (m - q) ≤ m := by omega
              have hlen := hAll (m - q) hnm
              have hcl := cloneA HST.out (cap := cv - q) (bs := (W.drop q).take (m - q)) (A := Av.map fun y => y.add q) (by have h := (HST.out.drop.obR.2.2.2).dropM (k := q) (by rw [HM.out]; exact hq); exact rb_take h (by rw [List.length_drop, HM.out]; omega)) (Nat.le_refl _) (by rw [(HNX.out _ hnm).1]; omega)
              rw [(HNX.out _ hnm).1] at hcl
              have HCL := Lib.hid hcl
              clear hcl
              go_wp2_with fail
              try rw [hlen]
              refine HCL.out.mono ?_
              rintro e w4 ⟨A4, c4, rfl, -, -, h4⟩
              have HFF := Lib.hid (HFE.out _ A4 c4 w4 hnm h4)
              clear h4 HCL HFE
              go_wp2_with fail
              refine HFF.out.mono ?_
              rintro e w5 ⟨rfl, bs5, Fs5, hf5, h5⟩
              have H5 := Lib.hid h5
              have HF5 := Lib.hid hf5
              clear h5 hf5 HFF HNX HFD HST
              go_wp2_with fail
              go_roundw
              case rel => exact ⟨j + 1, q + (m - q), bs5, Fs5, by omega, hnm, by go_num, by go_num, HF5.out, H5.out⟩
              case measure => simp [intOf]; omega
        · obtain rfl : j = O.length := by omega
          have HWL : Hid ((W.drop q).length = m - q) := Lib.hid (by rw [List.length_drop, HM.out])
          have HFE : Hid (∀ (A4 : Option Addr) (c4 : Nat) (w4 : World), St Zf [ObA 5 (.slice A4 (m - q) c4) (W.drop q), RdrA g bs Fs 0, ObA 5 (.slice Av m cv) W] w w4 →
              Calls Tryd.prog 24 #[.pointer (some ⟨g, 0, none⟩), .slice A4 (m - q) c4] w4 fun e w' => e = .returned (.int .i64 0) ∧ St Zf [RdrA g [] LF 0, ObA 5 (.slice Av m cv) W] w w') := Lib.hid fun A4 c4 w4 h4 => by
            have hl := HWL.out
            obtain ⟨g1, g2, g3⟩ := HFD.out.done HOF.out
            obtain ⟨l1, l2⟩ := HFD.out.len
            rw [hl, ← HW.out, HM.out] at l2
            have l3 : LF.length = k := by rw [HLF.out, List.length_map, HN.out]
            have hf := Feed_any (c := c4) HT.out h4.swap (h4.obR).2.2.2 (by rw [hl]; omega) (by omega)
            rw [hl, g1, g2, g3] at hf
            refine hf.mono ?_
            rintro e w' ⟨rfl, h5⟩
            exact ⟨rfl, h5.swap.drop⟩
          clear hst hfed HFD
          by_cases hcap : cv = q
          · subst hcap
            have hm0 : m - cv = 0 := by omega
            rw [hm0] at HFE HWL
            have hcl := cloneA HST.out (cap := 0) (bs := W.drop cv) (A := Av) (by rw [List.length_eq_zero_iff.1 HWL.out]; exact RB.nilE _ _ _) (Nat.le_refl _) (by rw [HWL.out]; omega)
            rw [HWL.out] at hcl
            have HCL := Lib.hid hcl
            clear hcl
            go_wp2_with fail
            refine HCL.out.mono ?_
            rintro e w4 ⟨A4, c4, rfl, -, -, h4⟩
            have HFF := Lib.hid (HFE.out A4 c4 w4 h4)
            clear h4 HCL HFE HST HWL
            go_wp2_with fail
            refine HFF.out.mono ?_
            rintro e w5 ⟨rfl, h5⟩
            have HRE := Lib.hid (Rest_any h5)
            have H5 := Lib.hid h5
            clear h5 HFF
            go_wp2_with fail
            refine HRE.out.mono ?_
            rintro e w6 ⟨rfl, rfl⟩
            obtain ⟨X, hX, h6⟩ := nx_of H5.out
            have H6 := Lib.hid h6.swap.drop
            have HX6 := Lib.hid hX
            clear h6 hX HRE H5
            go_wp2_with fail
            go_loopw [120] (fun i wr => ∃ (j : Nat) (X : List Fq), j ≤ k ∧ i = .int .i64 j ∧ X.map Fq.f = LF.drop j ∧ St Zf [NxA g [] X 0] w wr) (fun i _ => k - (intOf i).toNat)
            case atStart => exact ⟨0, X, Nat.zero_le _, rfl, HX6.out, H6.out⟩
            case round =>
              obtain ⟨j, X, hj, rfl, hX, hst⟩ := hrel
              clear H6 HX6
              by_cases hlt : j < k
              · obtain ⟨o, ho⟩ : ∃ o, L[j]? = some o := ⟨_, List.getElem?_eq_getElem (by rw [HN.out]; exact hlt)⟩
                have hdr : LF.drop j = fiF o :: LF.drop (j + 1) := by
                  rw [HLF.out, ← List.map_drop, ← List.map_drop, List.drop_eq_getElem_cons (show j < L.length by rw [HN.out]; exact hlt)]
                  have e : L[j]'(by rw [HN.out]; exact hlt) = o := Option.some.inj ((List.getElem?_eq_getElem _).symm.trans ho)
                  rw [e]
                  rfl
                rw [hdr] at hX
                obtain ⟨x, X, rfl⟩ : ∃ x Y, X = x :: Y := by
                  cases X with
                  | nil => cases hX
                  | cons x Y => exact ⟨x, Y, rfl⟩
                simp only [List.map_cons, List.cons.injEq] at hX
                obtain ⟨hx, hX⟩ := hX
                have HXN := Lib.hid hX
                obtain ⟨b, off, rfl, hbw, A0, c0, r0, r1, rr, rl1, rl2, rt⟩ := HX.out.below hst.bel j o ho
                have h0 := (HALL.out o (List.mem_of_getElem? ho)).1
                have hxt : o.t = (x.t : Int) := by
                  have h := congrArg Prod.fst hx
                  have h' : x.t = o.t.toNat := h
                  omega
                have hxd : o.d = x.d := (congrArg Prod.snd hx).symm
                rw [hxt] at r0
                rw [hxd] at r1 rr rl1
                obtain ⟨n, hn⟩ : ∃ n, x.d.length = n := ⟨_, rfl⟩
                have HNL := Lib.hid hn
                rw [hn] at r1 rl1
                have hlt2 : (j : Int) < (k : Int) := by omega
                obtain ⟨w2, hw2⟩ : ∃ w2, w2 = wr.alloc (.cells #[.int .i64 (x.t : Int), .slice A0 n c0] 25) := ⟨_, rfl⟩
                have h2 := hst.newBlk 25 #[.int .i64 (x.t : Int), .slice A0 n c0]
                rw [← hw2] at h2
                have HRR : Hid (∀ w', Below w.heap.size w w' → RB w' w.heap.size A0 x.d) := Lib.hid fun w' h => by
                  obtain ⟨b', off', e', -, A0', c0', -, r1', rr', -⟩ := HX.out.below h j o ho
                  simp only [Option.some.injEq, Addr.mk.injEq] at e'
                  obtain ⟨rfl, rfl, -⟩ := e'
                  have e1 := (hst.bel.cell (p := ⟨b, off + j * 2 + 1, none⟩) hbw).symm.trans r1
                  have e2 := (h.cell (p := ⟨b, off + j * 2 + 1, none⟩) hbw).symm.trans r1'
                  rw [e1] at e2
                  simp only [Option.some.injEq, Value.slice.injEq] at e2
                  rw [e2.1, ← hxd]
                  exact rr'
                have hn2 : x.d.length ≤ maxLen := by
                  have h := HSU.out.2.1 o (List.mem_of_getElem? ho)
                  rw [hxd] at h
                  unfold maxLen
                  omega
                have HNM := Lib.hid hn2
                have HNY := Lib.hid (Next_yes h2.swap)
                have HW2 := Lib.hid hw2
                clear hst hdr hx hX ho h0 hxt hxd rr rl1 rl2 hbw hw2 h2 hn2 hn rt
                go_wp2_with fail
                rw [← HW2.out]
                refine HNY.out.mono ?_
                rintro e w7 ⟨rfl, h7⟩
                simp only [fragg, HNL.out]
                obtain ⟨z0, z1⟩ := cells2 h7.bring2
                have hzl := h7.bring2.blk.lt
                have h8 := h7.newBlk 25 #[.int .i64 (x.t : Int), .slice x.A n x.c]
                have h9 : St Zf (ObA 5 (.slice x.A x.d.length x.c) x.d :: _) w _ := h8.swap
                have hsm := refSame_any (x.t : Int) (x.t : Int) A0 x.A c0 x.c _ _ x.d x.d _ (HRR.out _ h8.bel) h8.size h9.obR.2.2.2 (Nat.le_refl _) HNM.out HNM.out
                simp only [fragg, and_self, decide_true, HNL.out] at hsm
                have HSM := Lib.hid hsm
                have H8 := Lib.hid h8
                clear h7 h8 h9 hsm HNY HRR
                go_wp2_with fail
                refine HSM.out.mono ?_
                rintro e w10 ⟨rfl, hb10⟩
                have H10 := Lib.hid (H8.out.below hb10).drop.drop.swap.drop
                clear hb10 HSM H8 z0 z1 hzl
                go_wp2_with fail
                go_roundw
                case rel => exact ⟨j + 1, X, by omega, by go_num, HXN.out, H10.out⟩
                case measure => simp [intOf]; omega
              · obtain rfl : j = k := by omega
                have hX0 : X = [] := by
                  rw [List.drop_eq_nil_of_le (by rw [HLF.out, List.length_map, HN.out]; omega)] at hX
                  exact List.map_eq_nil_iff.1 hX
                subst hX0
                have HNO := Lib.hid (Next_no hst)
                clear hst hX
                go_wp2_with fail
                refine HNO.out.mono ?_
                rintro e w7 ⟨rfl, h7⟩
                have HE := Lib.hid (h7.newBlk 25 #[.int .i64 0, .slice none 0 0]).bel
                clear h7 HNO
                simp only [noFr, fragg]
                go_wp2_with fail
                go_ret
                exact ⟨rfl, HE.out⟩
          · have hcap2 : ¬ q = cv := fun h => hcap h.symm
            have hcap3 : q < cv := by omega
            have hcap4 : ¬ cv - q = 0 := by omega
            have hcap5 : ¬ cv ≤ q := by omega
            have hcl := cloneA HST.out (cap := cv - q) (bs := W.drop q) (A := Av.map fun y => y.add q) ((HST.out.drop.obR.2.2.2).dropM (k := q) (by rw [HM.out]; exact hq)) (Nat.le_refl _) (by rw [HWL.out]; omega)
            rw [HWL.out] at hcl
            have HCL := Lib.hid hcl
            clear hcl
            go_wp2_with fail
            refine HCL.out.mono ?_
            rintro e w4 ⟨A4, c4, rfl, -, -, h4⟩
            have HFF := Lib.hid (HFE.out A4 c4 w4 h4)
            clear h4 HCL HFE HST HWL
            go_wp2_with fail
            refine HFF.out.mono ?_
            rintro e w5 ⟨rfl, h5⟩
            have HRE := Lib.hid (Rest_any h5)
            have H5 := Lib.hid h5
            clear h5 HFF
            go_wp2_with fail
            refine HRE.out.mono ?_
            rintro e w6 ⟨rfl, rfl⟩
            obtain ⟨X, hX, h6⟩ := nx_of H5.out
            have H6 := Lib.hid h6.swap.drop
            have HX6 := Lib.hid hX
            clear h6 hX HRE H5
            go_wp2_with fail
            go_loopw [120] (fun i wr => ∃ (j : Nat) (X : List Fq), j ≤ k ∧ i = .int .i64 j ∧ X.map Fq.f = LF.drop j ∧ St Zf [NxA g [] X 0] w wr) (fun i _ => k - (intOf i).toNat)
            case atStart => exact ⟨0, X, Nat.zero_le _, rfl, HX6.out, H6.out⟩
            case round =>
              obtain ⟨j, X, hj, rfl, hX, hst⟩ := hrel
              clear H6 HX6
              by_cases hlt : j < k
              · obtain ⟨o, ho⟩ : ∃ o, L[j]? = some o := ⟨_, List.getElem?_eq_getElem (by rw [HN.out]; exact hlt)⟩
                have hdr : LF.drop j = fiF o :: LF.drop (j + 1) := by
                  rw [HLF.out, ← List.map_drop, ← List.map_drop, List.drop_eq_getElem_cons (show j < L.length by rw [HN.out]; exact hlt)]
                  have e : L[j]'(by rw [HN.out]; exact hlt) = o := Option.some.inj ((List.getElem?_eq_getElem _).symm.trans ho)
                  rw [e]
                  rfl
                rw [hdr] at hX
                obtain ⟨x, X, rfl⟩ : ∃ x Y, X = x :: Y := by
                  cases X with
                  | nil => cases hX
                  | cons x Y => exact ⟨x, Y, rfl⟩
                simp only [List.map_cons, List.cons.injEq] at hX
                obtain ⟨hx, hX⟩ := hX
                have HXN := Lib.hid hX
                obtain ⟨b, off, rfl, hbw, A0, c0, r0, r1, rr, rl1, rl2, rt⟩ := HX.out.below hst.bel j o ho
                have h0 := (HALL.out o (List.mem_of_getElem? ho)).1
                have hxt : o.t = (x.t : Int) := by
                  have h := congrArg Prod.fst hx
                  have h' : x.t = o.t.toNat := h
                  omega
                have hxd : o.d = x.d := (congrArg Prod.snd hx).symm
                rw [hxt] at r0
                rw [hxd] at r1 rr rl1
                obtain ⟨n, hn⟩ : ∃ n, x.d.length = n := ⟨_, rfl⟩
                have HNL := Lib.hid hn
                rw [hn] at r1 rl1
                have hlt2 : (j : Int) < (k : Int) := by omega
                obtain ⟨w2, hw2⟩ : ∃ w2, w2 = wr.alloc (.cells #[.int .i64 (x.t : Int), .slice A0 n c0] 25) := ⟨_, rfl⟩
                have h2 := hst.newBlk 25 #[.int .i64 (x.t : Int), .slice A0 n c0]
                rw [← hw2] at h2
                have HRR : Hid (∀ w', Below w.heap.size w w' → RB w' w.heap.size A0 x.d) := Lib.hid fun w' h => by
                  obtain ⟨b', off', e', -, A0', c0', -, r1', rr', -⟩ := HX.out.below h j o ho
                  simp only [Option.some.injEq, Addr.mk.injEq] at e'
                  obtain ⟨rfl, rfl, -⟩ := e'
                  have e1 := (hst.bel.cell (p := ⟨b, off + j * 2 + 1, none⟩) hbw).symm.trans r1
                  have e2 := (h.cell (p := ⟨b, off + j * 2 + 1, none⟩) hbw).symm.trans r1'
                  rw [e1] at e2
                  simp only [Option.some.injEq, Value.slice.injEq] at e2
                  rw [e2.1, ← hxd]
                  exact rr'
                have hn2 : x.d.length ≤ maxLen := by
                  have h := HSU.out.2.1 o (List.mem_of_getElem? ho)
                  rw [hxd] at h
                  unfold maxLen
                  omega
                have HNM := Lib.hid hn2
                have HNY := Lib.hid (Next_yes h2.swap)
                have HW2 := Lib.hid hw2
                clear hst hdr hx hX ho h0 hxt hxd rr rl1 rl2 hbw hw2 h2 hn2 hn rt
                go_wp2_with fail
                rw [← HW2.out]
                refine HNY.out.mono ?_
                rintro e w7 ⟨rfl, h7⟩
                simp only [fragg, HNL.out]
                obtain ⟨z0, z1⟩ := cells2 h7.bring2
                have hzl := h7.bring2.blk.lt
                have h8 := h7.newBlk 25 #[.int .i64 (x.t : Int), .slice x.A n x.c]
                have h9 : St Zf (ObA 5 (.slice x.A x.d.length x.c) x.d :: _) w _ := h8.swap
                have hsm := refSame_any (x.t : Int) (x.t : Int) A0 x.A c0 x.c _ _ x.d x.d _ (HRR.out _ h8.bel) h8.size h9.obR.2.2.2 (Nat.le_refl _) HNM.out HNM.out
                simp only [fragg, and_self, decide_true, HNL.out] at hsm
                have HSM := Lib.hid hsm
                have H8 := Lib.hid h8
                clear h7 h8 h9 hsm HNY HRR
                go_wp2_with fail
                refine HSM.out.mono ?_
                rintro e w10 ⟨rfl, hb10⟩
                have H10 := Lib.hid (H8.out.below hb10).drop.drop.swap.drop
                clear hb10 HSM H8 z0 z1 hzl
                go_wp2_with fail
                go_roundw
                case rel => exact ⟨j + 1, X, by omega, by go_num, HXN.out, H10.out⟩
                case measure => simp [intOf]; omega
              · obtain rfl : j = k := by omega
                have hX0 : X = [] := by
                  rw [List.drop_eq_nil_of_le (by rw [HLF.out, List.length_map, HN.out]; omega)] at hX
                  exact List.map_eq_nil_iff.1 hX
                subst hX0
                have HNO := Lib.hid (Next_no hst)
                clear hst hX
                go_wp2_with fail
                refine HNO.out.mono ?_
                rintro e w7 ⟨rfl, h7⟩
                have HE := Lib.hid (h7.newBlk 25 #[.int .i64 0, .slice none 0 0]).bel
                clear h7 HNO
                simp only [noFr, fragg]
                go_wp2_with fail
                go_ret
                exact ⟨rfl, HE.out⟩

/-! ### THE ROW's STEP -/
theorem own : ownKnob Tryd.prog.godebug = none := by kernel_rfl
theorem laidOut : laidOutB Tryd.prog = true := by kernel_rfl
theorem gTab0 : Tryd.prog.globalNamed "satchel/crc.nibbles" = some 0 := by kernel_rfl
theorem gTabType0 : (Tryd.prog.globals[0]?).map (·.type) = some 87 := by kernel_rfl
theorem cellsTab0 : Tryd.prog.cellsOf 87 = 16 := by kernel_rfl
theorem cellsElem0 : Tryd.prog.cellsOf 66 = 1 := by kernel_rfl
theorem table0 {W : World} (h : laidMetH Tryd.prog Rows.frameThereUptoRow.laid W) : Lib.TabIs Tryd.prog W "satchel/crc.nibbles" .u32 [0, 498536548, 997073096, 651767980, 1994146192, 1802195444, 1303535960, 1342533948, 3988292384, 4027552580, 3604390888, 3412177804, 2607071920, 2262029012, 2685067896, 3183342108] :=
  Lib.tabIs_of_head gTab0 gTabType0 Tryd.underlying87 Tryd.underlying66 cellsElem0 cellsTab0 h

set_option maxRecDepth 100000 in
theorem contract (H : Type) (enc : TypeId × Value → H) (W : World) (base : Nat) (args : Array Value) (ds gs : List (DataW H)) (before : List MemPlace)
    (hval0 : ∀ (j : Nat) t v, Tryd.f8.params[j]? = some t → args[j]? = some v → Value.okWide Tryd.prog W .any base t v)
    (hW : DataW.Whole enc Tryd.prog Tryd.f8.params.toList Rows.frameThereSpec.vars false W args.toList ds gs before)
    (hk : Rows.uptoSmall H (ds ++ gs) = true)
    (hsz : (DataW.weightsEach Tryd.prog (Tryd.f8.params.toList ++ (Rows.OpenSpec.upto Rows.frameThereSpec).bare.plain.varTypes Tryd.prog) (ds ++ gs)).all (· ≤ reachBytes) = true) (hL : laidMetH Tryd.prog Rows.frameThereUptoRow.laid W) :
    Calls Tryd.prog 8 args W fun e W' => ∃ v, e = .returned v ∧ Rows.frameThereSpec.post enc Tryd.prog Tryd.f8 false true false false W args v W' := by
  have hval : ∀ (j : Nat) t v, Tryd.f8.params[j]? = some t → args[j]? = some v → Value.okWide Tryd.prog W .any base t v := hval0
  have hW' := hW
  obtain ⟨p, q, hA0, hV, rfl, hfz, hnd⟩ := hW
  have hA : DataW.TrodAll enc Tryd.prog W 0 (fun _ => true) true Tryd.f8.params.toList args.toList ds p := hA0
  rw [Tryd.params8] at hA hval
  obtain ⟨v0, vs0, d0, ds0, p0, q0, hargs, rfl, rfl, h0, r0⟩ := trodAll_cons hA
  obtain ⟨v1, vs1, d1, ds1, p1, q1, rfl, rfl, rfl, h1, r1⟩ := trodAll_cons r0
  obtain ⟨rfl, rfl, rfl⟩ := trodAll_nil r1
  obtain rfl : args = #[v0, v1] := by cases args; simp_all
  obtain ⟨rfl, rfl⟩ := trodVars_none hV
  have k0 := h0
  have lt0 : ∀ x ∈ p0, x.block < W.heap.size := by obtain ⟨m, hm⟩ := k0; exact DataW.trod_lt m _ _ _ hm
  have w0 := reach_at hsz (j := 0) rfl rfl
  have u0 : Rows.uptoBulk d0 ≤ 1048576 := bulk_at hk (by simp)
  have k1 := h1
  have lt1 : ∀ x ∈ p1, x.block < W.heap.size := by obtain ⟨m, hm⟩ := k1; exact DataW.trod_lt m _ _ _ hm
  have w1 := reach_at hsz (j := 1) rfl rfl
  have u1 : Rows.uptoBulk d1 ≤ 1048576 := bulk_at hk (by simp)
  clear hA0 hval0 hsz
  have hT := tabW_of fun i hi => (table0 hL).cell gTab0 i hi
  obtain ⟨A0, L0, c0, rfl, hx0⟩ := open_frames (hval 0 _ v0 rfl rfl) w0 h0 lt0 u0
  obtain ⟨B1, M1, d1, rfl, hx1⟩ := open_ids (hval 1 _ v1 rfl rfl) w1 h1 lt1 u1
  refine (walk W hT hx0 hx1).mono fun e W' ⟨he, bel⟩ => ?_
  subst he
  exact ⟨_, rfl, _, _, _, [], _, [], hW', trodAll_mk1 (shut_bool Tryd.underlying4 _), (trodAll_cons_mk (Below.trod laidOut (by kernel_rfl) (of_decide_eq_true (by kernel_rfl)) k0 bel lt0) (trodAll_cons_mk (Below.trod laidOut (by kernel_rfl) (of_decide_eq_true (by kernel_rfl)) k1 bel lt1) trodAll_mk0)), rfl, bel.frame _, fun h => by cases h⟩

/-- a world for the witness: the settled one, the tables holding what their initialisers lay -/
noncomputable def laidWorld (os : Os) : World :=
  { World.holding Tryd.prog os ⟨#[], #[], []⟩ with heap := ((World.holding Tryd.prog os ⟨#[], #[], []⟩).heap.modify 0 (fun | .cells _ t frozen => .cells #[.int .u32 0, .int .u32 498536548, .int .u32 997073096, .int .u32 651767980, .int .u32 1994146192, .int .u32 1802195444, .int .u32 1303535960, .int .u32 1342533948, .int .u32 3988292384, .int .u32 4027552580, .int .u32 3604390888, .int .u32 3412177804, .int .u32 2607071920, .int .u32 2262029012, .int .u32 2685067896, .int .u32 3183342108] t frozen | o => o)) }
theorem laid_met (os : Os) : laidMet Tryd.prog Rows.frameThereUptoRow.laid ((laidWorld os).forCall (fun _ _ => 0) ⟨#[], #[.slice none 0 0, .slice none 0 0], []⟩).memory :=
  laidMet_of_run' 8 (by kernel_rfl) (by kernel_rfl)
theorem reads (os : Os) {H : Type} (enc : TypeId × Value → H) : ∃ places, DataW.whole enc Tryd.prog ((laidWorld os).forCall (fun _ _ => 0) ⟨#[], #[.slice none 0 0, .slice none 0 0], []⟩).memory Tryd.f8.params.toList Rows.frameThereSpec.vars false (#[.slice none 0 0, .slice none 0 0] : Array Value).toList 8 = some ([.nil, .nil], [], places) :=
  ⟨[], by kernel_rfl⟩

set_option maxRecDepth 100000 in
theorem lifted (os : Os) (started : os.Started) (H : Type) (enc : TypeId × Value → H) (F : Stop.Interp) :
    ReturnsInHanded {} Tryd.checked os 8 .any ((Rows.OpenSpec.upto Rows.frameThereSpec).preRow enc Tryd.prog Tryd.f8 Rows.frameThereUptoRow.domain false Rows.frameThereUptoRow.laid) (((Rows.OpenSpec.upto Rows.frameThereSpec).at F).post enc Tryd.prog Tryd.f8 false true false false) := by
  obtain ⟨places, hx⟩ := reads os enc
  refine returnsInHanded_of_row (C := Tryd.checked) (s := (Rows.OpenSpec.upto Rows.frameThereSpec)) own started (by kernel_rfl) Tryd.func8
    (witness_row_at (enc := enc) (C := Tryd.checked) false (laidWorld os) #[.slice none 0 0, .slice none 0 0] rfl (by kernel_rfl) (by kernel_rfl) (by kernel_rfl)
      (OpenSpec.preRow_of_cond 8 hx (by kernel_rfl) (fun k hk => by cases hk; kernel_rfl) (by kernel_rfl) (laid_met os))) ?_
  intro W base args ds gs before hval hW _ hcond hsz hL _ _
  exact contract H enc W base args ds gs before hval hW (hcond _ rfl) hsz hL

theorem said : Rows.FrameThereUptoSaid :=
  OpenClaim.holds_of_cond 8 Tryd.f8 rfl rfl rfl rfl rfl rfl rfl ⟨rfl, rfl, rfl, rfl, rfl⟩ rfl rfl rfl rfl rfl (by kernel_rfl) Tryd.func8 (by kernel_rfl)
    (of_decide_eq_true (by kernel_rfl)) (by unfold Func.isWrapper; rw [if_neg (of_decide_eq_false (by kernel_rfl))]; exact ⟨rfl, rfl⟩)
    (fun os started H enc _ F => by rw [OpenClaim.pre_eq_preRow]; exact lifted os started H enc F)

theorem noStandIn : ∀ t ∈ ([35, 58] : List TypeId), Tryd.prog.wantsStandIn t = false := by
  intro t ht
  simp only [List.mem_cons, List.not_mem_nil, or_false] at ht
  rcases ht with rfl | rfl
  · exact (show Tryd.prog.wantsStandIn 35 = false by kernel_rfl)
  · exact (show Tryd.prog.wantsStandIn 58 = false by kernel_rfl)
theorem plain (f : FuncId) (fn : Func) (hf : Tryd.pinned.checked.prog.funcNamed "satchel/satchellaw19.FrameThere" = some f) (hfn : Tryd.pinned.checked.prog.funcs[f]? = some fn) :
    false = Tryd.pinned.checked.prog.looks [] ∧ ∀ (j : Nat) t, fn.params[j]? = some t → Tryd.pinned.checked.prog.wantsStandIn t = false := by
  obtain rfl : f = 8 := Option.some.inj ((show Tryd.prog.funcNamed "satchel/satchellaw19.FrameThere" = some 8 by kernel_rfl).symm.trans hf) |>.symm
  obtain rfl : fn = Tryd.f8 := (Option.some.inj (Tryd.func8.symm.trans hfn)).symm
  refine ⟨by kernel_rfl, fun j t ht => ?_⟩
  rw [Tryd.params8] at ht
  exact noStandIn t (by simpa using Array.mem_of_getElem? ht)

/-- THE CARD -/
theorem proved : Rows.FrameThereUptoCardSaid :=
  Claim7.holds_tied_plain_at .later [] _ _ _ _ said (fun _ h => by cases h) (by kernel_rfl) (fun _ h => by cases h) frameThereUpto_row_tie rfl ⟨rfl, rfl⟩ (by kernel_rfl) rfl plain (by kernel_rfl)
end Go.Proofs.YtkdlehekignnhaaDoor.frameThere
