/- slots: Pack, whole. -/
import Derived.Test.YtgpahglmhnnobaaGreatDoorSlPack
namespace Go.Proofs.YtgpahglmhnnobaaGreatDoor
open Go.RowKit
set_option linter.unusedVariables false
set_option linter.unusedSimpArgs false

/-- what Pack leaves -/
def PackW (L : List Kv) (room : Int) (w : World) (e : Ending) (w' : World) : Prop := ∃ v v', e = .returned (.tuple #[v, v', .int .i64 (packE L room)]) ∧ St Zf [ObA 5 v (packS L room), ObA 5 v' (packO L room)] w w'
theorem pack_no {L : List Kv} {room : Int} (h : packE L room ≠ 0) : packS L room = [] ∧ packO L room = [] := ⟨if_neg h, if_neg h⟩
theorem pack_nil {L : List Kv} {room : Int} {w w' : World} (h : packE L room ≠ 0) (hs : St Zf [] w w') : PackW L room w (.returned (.tuple #[.slice none 0 0, .slice none 0 0, .int .i64 (packE L room)])) w' := by
  refine ⟨_, _, rfl, ?_⟩
  rw [(pack_no h).1, (pack_no h).2]
  exact (hs.nilOb 5).nilOb 5
theorem kv_load {w : World} {B : Nat} {A : Option Addr} {L : List Kv} {k : Nat} {x : Kv} (h : KvsR w B A L) (hx : L[k]? = some x) : ∃ b off A1 c1 A2 c2, A = some ⟨b, off, none⟩ ∧ b < B ∧ VR w B x.v (vagg x.v A1 c1 A2 c2) ∧ i64ok x.k ∧
    w.cell? ⟨b, off + k * 6, none⟩ = some (.int .i64 x.k) ∧ w.cell? ⟨b, off + k * 6 + 1, none⟩ = some (.int .i64 x.v.k) ∧ w.cell? ⟨b, off + k * 6 + 2, none⟩ = some (.int .i64 x.v.n) ∧ w.cell? ⟨b, off + k * 6 + 3, none⟩ = some (.string x.v.s) ∧
      w.cell? ⟨b, off + k * 6 + 4, none⟩ = some (.slice A1 x.v.ns.length c1) ∧ w.cell? ⟨b, off + k * 6 + 5, none⟩ = some (.slice A2 x.v.ts.length c2) := by
  obtain ⟨b, off, hA, hb, A1, c1, A2, c2, hc, h1, h2, h3, h4⟩ := h k x hx
  exact ⟨b, off, A1, c1, A2, c2, hA, hb, ⟨A1, c1, A2, c2, rfl, h1, h2, h3⟩, h4, kv_cells hc⟩
set_option maxRecDepth 100000 in
set_option maxHeartbeats 1000000 in
theorem Pack_any (A : Option Addr) (c B : Nat) (L : List Kv) (room : Int) (w : World) (hr : KvsR w B A L) (hB : B ≤ w.heap.size) (hl : L.length ≤ 140737488351232) :
    Calls Tryz.prog 8 #[.slice A L.length c, .int .i64 room] w (PackW L room w) := by
  obtain ⟨i0, hi, hz0, hz1, hz2⟩ := info_parts u8_info
  by_cases hro : room < 0 ∨ 16 < room
  · have he : packE L room = 2 := if_pos hro
    have HF := Lib.hid (fun w' (h : St Zf [] w w') => pack_nil (L := L) (room := room) (by rw [he]; decide) h)
    rw [he] at HF
    have H0 := Lib.hid (St.start Zf w)
    clear he hr
    go_enter Tryz.func8, Tryz.ntmps8
    by_cases h0 : room < 0
    · clear hro
      go_wp2
      go_ret3
      exact HF.out _ H0.out
    · have h1 : 16 < room := by omega
      clear hro
      go_wp2
      go_ret3
      exact HF.out _ H0.out
  · obtain ⟨R, rfl⟩ : ∃ R : Nat, room = (R : Int) := ⟨room.toNat, by omega⟩
    have hR : R ≤ 16 := by omega
    have h0 : ¬ (R : Int) < 0 := by omega
    have h1 : ¬ (16 : Int) < (R : Int) := by omega
    by_cases hn : 16 < L.length
    · have he : packE L (R : Int) = 64 := by unfold packE; rw [if_neg hro, if_pos hn]
      have HF := Lib.hid (fun w' (h : St Zf [] w w') => pack_nil (L := L) (room := (R : Int)) (by rw [he]; decide) h)
      rw [he] at HF
      have H0 := Lib.hid (St.start Zf w)
      obtain ⟨n, hnn⟩ : ∃ n, n = L.length := ⟨_, rfl⟩
      rw [← hnn] at hn ⊢
      have hn2 : (16 : Int) < (n : Int) := by omega
      clear he hr hnn hro
      go_enter Tryz.func8, Tryz.ntmps8
      go_wp2
      go_ret3
      exact HF.out _ H0.out
    · have he : packE L (R : Int) = (pkRun (pk0 R) L).2 := by unfold packE; rw [if_neg hro, if_neg hn, Int.toNat_natCast]
      have hs : (pkRun (pk0 R) L).2 = 0 → packS L (R : Int) = (pkRun (pk0 R) L).1.sl ++ List.replicate (8 * (pkRun (pk0 R) L).1.left) 0 ∧ packO L (R : Int) = (pkRun (pk0 R) L).1.ov := fun h => by
        unfold packS packO
        rw [he, if_pos h, if_pos h, Int.toNat_natCast]
        exact ⟨rfl, rfl⟩
      have HE := Lib.hid he
      have HS := Lib.hid hs
      have HF := Lib.hid (fun w' (h : St Zf [] w w') (hq : packE L (R : Int) ≠ 0) => pack_nil (L := L) (room := (R : Int)) hq h)
      have HRD : Hid (∀ w', Below w.heap.size w w' → KvsR w' B A L) := Lib.hid fun w' hb => hr.below (hb.mono hB)
      have hst := (((St.start Zf w).newWr).newWr).newBlk 51 (pkCs w.heap.size (w.heap.size + 1) (pk0 R))
      simp only [World.size_alloc] at hst
      have HST := Lib.hid hst.bring2.swap
      obtain ⟨n, hnn⟩ : ∃ n, n = L.length := ⟨_, rfl⟩
      have HN := Lib.hid hnn
      rw [← hnn] at hn ⊢
      have hn2 : ¬ (16 : Int) < (n : Int) := by omega
      have HBB := Lib.hid hB
      clear he hr hnn hro hs hst hl hB
      go_enter Tryz.func8, Tryz.ntmps8
      go_wp2_with (go_at_call 17; refine (NewWriter_any _).mono ?_; rintro e w' ⟨rfl, rfl⟩)
      obtain ⟨w3, hw3⟩ : ∃ w3, w3 = ((w.alloc (.cells #[.slice none 0 0] 70)).alloc (.cells #[.slice none 0 0] 70)).alloc (.cells (pkCs w.heap.size (w.heap.size + 1) (pk0 R)) 51) := ⟨_, rfl⟩
      rw [← hw3] at HST
      have hw4 : w3 = ((w.alloc (.cells #[.slice none 0 0] 70)).alloc (.cells #[.slice none 0 0] 70)).alloc (.cells #[.pointer (some ⟨w.heap.size, 0, none⟩), .pointer (some ⟨w.heap.size + 1, 0, none⟩), .int .i64 (R : Int), .int .i64 (-1)] 51) := hw3
      rw [← hw4]
      clear hw3 hw4
      generalize w.heap.size + 1 + 1 = g at HST ⊢
      generalize hgo : w.heap.size + 1 = go at HST ⊢
      obtain ⟨gs, hgs⟩ : ∃ gs, gs = w.heap.size := ⟨_, rfl⟩
      have HST : Hid (St Zf [BlkA g 51 (pkCs gs go (pk0 R)), WrA gs (pk0 R).sl, WrA go (pk0 R).ov] w w3) := by
        rw [hgs]
        exact Lib.hid HST.out
      rw [← hgs]
      clear hgo hgs
      go_loopw [27] (fun i wr => ∃ (k : Nat) (p : Pk), k ≤ n ∧ i = .int .i64 k ∧ Hid (PkOk R k p) ∧ Hid (pkRun (pk0 R) L = pkRun p (L.drop k)) ∧ Hid (St Zf [BlkA g 51 (pkCs gs go p), WrA gs p.sl, WrA go p.ov] w wr)) (fun i _ => n - (intOf i).toNat)
      case atStart => exact ⟨0, pk0 R, Nat.zero_le _, rfl, Lib.hid (PkOk.start R), Lib.hid rfl, HST⟩
      case round =>
        obtain ⟨k, p, hk, rfl, HOK, HRUN, HSP⟩ := hrel
        clear HST
        by_cases hlt : k < n
        · obtain ⟨x, hx⟩ : ∃ x, L[k]? = some x := ⟨_, List.getElem?_eq_getElem (by rw [← HN.out]; exact hlt)⟩
          obtain ⟨b, off, A1, c1, A2, c2, rfl, hb, hv, hk6, q0, q1, q2, q3, q4, q5⟩ := kv_load (HRD.out wr HSP.out.bel) hx
          have hd : L.drop k = x :: L.drop (k + 1) := by
            rw [List.drop_eq_getElem_cons (by rw [← HN.out]; exact hlt)]
            rw [List.getElem?_eq_getElem (by rw [← HN.out]; exact hlt)] at hx
            rw [Option.some.inj hx]
          have HD := Lib.hid hd
          have h1 := (HSP.out.newBlk 44 #[.int .i64 x.k, .int .i64 x.v.k, .int .i64 x.v.n, .string x.v.s, .slice A1 x.v.ns.length c1, .slice A2 x.v.ts.length c2]).bring3.bring3.bring3
          have hsz := HSP.out.bel.size
          have HA := add_any h1 (hv.alloc (by have := HBB.out; omega) _) (by rw [World.size_alloc]; have := HBB.out; omega) hk6 HOK.out hR (by omega)
          unfold kcells at HA
          obtain ⟨E, hE⟩ : ∃ E, E = pkErr p.key x := ⟨_, rfl⟩
          rw [← hE] at HA
          have HEE := Lib.hid hE
          have HA := Lib.hid HA
          clear h1 hv hE hd hx
          go_wp2_with fail
          refine HA.out.mono ?_
          rintro e w5 ⟨rfl, h5⟩
          have H5 := Lib.hid h5.bring3.drop
          clear h5 HA
          by_cases h0 : E = 0
          · subst h0
            rw [if_pos rfl] at H5
            clear q0 q1 q2 q3 q4 q5
            go_wp2
            go_roundw
            case rel => exact ⟨k + 1, pkPut p x, by omega, by go_num, Lib.hid (HOK.out.put HEE.out.symm), Lib.hid (by rw [HRUN.out, HD.out, pkRun_ok HEE.out.symm]), H5⟩
            case measure => simp [intOf]; omega
          · have hb : (E != 0) = true := by simpa using h0
            have hpe : packE L (R : Int) = E := by rw [HE.out, HRUN.out, HD.out, pkRun_no (by rw [← HEE.out]; exact h0), HEE.out]
            have HPE := Lib.hid hpe
            clear q0 q1 q2 q3 q4 q5 hpe
            go_wp2
            go_ret3
            have h9 := HF.out w5 (H5.out.drop.drop.drop) (by rw [HPE.out]; exact h0)
            rw [HPE.out] at h9
            exact h9
        · obtain rfl : k = n := by omega
          have hrun : pkRun (pk0 R) L = (p, 0) := by rw [HRUN.out, List.drop_of_length_le (by rw [← HN.out]; exact Nat.le_refl _)]; rfl
          obtain ⟨hs1, hs2⟩ := HS.out (by rw [hrun])
          rw [hrun] at hs1 hs2
          have hpe : packE L (R : Int) = 0 := by rw [HE.out, hrun]
          have HPE := Lib.hid hpe
          have HS1 := Lib.hid hs1
          have HS2 := Lib.hid hs2
          obtain ⟨lf, hlf⟩ : ∃ lf, lf = p.left := ⟨_, rfl⟩
          have hle : lf ≤ 16 := by have := HOK.out.sl; omega
          obtain ⟨z, hz⟩ : ∃ z, z = 8 * lf := ⟨_, rfl⟩
          have u3 : wrap64 ((lf : Int) * 8) = (z : Int) := by unfold wrap64; omega
          have v3 : IntKind.i64.wrap ((lf : Int) * 8) = (z : Int) := by rw [IntKind.wrap_i64]; omega
          have HL : Hid (z ≤ 200 ∧ p.sl.length ≤ 128 ∧ p.ov.length ≤ 1099511627776) := Lib.hid ⟨by omega, by have := HOK.out.sl; omega, by have := HOK.out.ov; omega⟩
          obtain ⟨c0, cc1, cc2, c3, -, -⟩ := pk_cells HSP.out
          rw [← hlf] at cc2
          have HZ := Lib.hid hz
          have HLF := Lib.hid hlf
          have HSW := Lib.hid HSP.out.swap
          clear hrun hs1 hs2 hpe hz hlf hle HSP HRUN HE HS HF
          go_wp2
          refine wp_region_held_drew (S := (fun w' => w'.cell? ⟨g, 0, none⟩ = some (.pointer (some ⟨gs, 0, none⟩)) ∧ w'.cell? ⟨g, 2, none⟩ = some (.int .i64 (lf : Int)))) (by kernel_rfl) (by (try dsimp only); go_keep) (fun hHeld => ?_)
          refine wpAnyH_take (i := 0) (v := ?_) rfl (by kernel_rfl) (by kernel_rfl) (by kernel_rfl) (fun _ _ _ h => h) (Or.inl ⟨by rfl, ?_⟩) (by assumption) ?_
          rotate_left
          · (intro w hSw; (try dsimp only at hSw); go_simp; try with_reducible rfl)
          try simp only [Act.put, List.getElem_toArray, List.getElem_cons_zero, List.getElem_cons_succ, List.setIfInBounds_toArray, List.set_cons_zero, List.set_cons_succ]
          refine wpAnyH_take (i := 1) (v := ?_) rfl (by kernel_rfl) (by kernel_rfl) (by kernel_rfl) (fun _ _ _ h => h) (Or.inl ⟨by rfl, ?_⟩) (by assumption) ?_
          rotate_left
          · (intro w hSw; (try dsimp only at hSw); go_simp; try with_reducible rfl)
          try simp only [Act.put, List.getElem_toArray, List.getElem_cons_zero, List.getElem_cons_succ, List.setIfInBounds_toArray, List.set_cons_zero, List.set_cons_succ]
          refine wpAnyH_take (i := 2) (v := ?_) rfl (by kernel_rfl) (by kernel_rfl) (by kernel_rfl) (fun _ _ _ h => h) (Or.inl ⟨by rfl, ?_⟩) (by assumption) ?_
          rotate_left
          · (intro w hSw; (try dsimp only at hSw); go_simp; try with_reducible rfl)
          try simp only [Act.put, List.getElem_toArray, List.getElem_cons_zero, List.getElem_cons_succ, List.setIfInBounds_toArray, List.set_cons_zero, List.set_cons_succ]
          refine wpAnyH_take (i := 3) (v := ?_) rfl (by kernel_rfl) (by kernel_rfl) (by kernel_rfl) (fun _ _ _ h => h) (Or.inl ⟨by rfl, ?_⟩) (by assumption) ?_
          rotate_left
          · (intro w hSw; (try dsimp only at hSw); go_simp; try with_reducible rfl)
          try simp only [Act.put, List.getElem_toArray, List.getElem_cons_zero, List.getElem_cons_succ, List.setIfInBounds_toArray, List.set_cons_zero, List.set_cons_succ]
          refine wpAnyH_take (i := 4) (v := ?_) rfl (by kernel_rfl) (by kernel_rfl) (by kernel_rfl) (fun _ _ _ h => h) (Or.inl ⟨by rfl, ?_⟩) (by assumption) ?_
          rotate_left
          · (intro w hSw; (try dsimp only at hSw); go_simp; try with_reducible rfl)
          try simp only [Act.put, List.getElem_toArray, List.getElem_cons_zero, List.getElem_cons_succ, List.setIfInBounds_toArray, List.set_cons_zero, List.set_cons_succ]
          refine wpAnyH_take (i := 5) (v := ?_) rfl (by kernel_rfl) (by kernel_rfl) (by kernel_rfl) (fun _ _ _ h => h) (Or.inl ⟨by rfl, ?_⟩) (by assumption) ?_
          rotate_left
          · (intro w hSw; (try dsimp only at hSw); go_simp; try with_reducible rfl)
          try simp only [Act.put, List.getElem_toArray, List.getElem_cons_zero, List.getElem_cons_succ, List.setIfInBounds_toArray, List.set_cons_zero, List.set_cons_succ]
          refine wpAnyH_take (i := 6) (v := ?_) rfl (by kernel_rfl) (by kernel_rfl) (by kernel_rfl) (fun _ _ _ h => h) (Or.inl ⟨by rfl, ?_⟩) (by assumption) ?_
          rotate_left
          · (intro w hSw; (try dsimp only at hSw); go_simp; try with_reducible rfl)
          try simp only [Act.put, List.getElem_toArray, List.getElem_cons_zero, List.getElem_cons_succ, List.setIfInBounds_toArray, List.set_cons_zero, List.set_cons_succ]
          refine wpAnyH_take (i := 7) (v := ?_) rfl (by kernel_rfl) (by kernel_rfl) (by kernel_rfl) (fun _ _ _ h => h) (Or.inl ⟨by rfl, ?_⟩) (by assumption) ?_
          rotate_left
          · (intro w hSw; (try dsimp only at hSw); go_simp; try with_reducible rfl)
          try simp only [Act.put, List.getElem_toArray, List.getElem_cons_zero, List.getElem_cons_succ, List.setIfInBounds_toArray, List.set_cons_zero, List.set_cons_succ]
          refine wpAnyH_take (i := 8) (v := ?_) rfl (by kernel_rfl) (by kernel_rfl) (by kernel_rfl) (fun _ _ _ h => h) (Or.inl ⟨by rfl, ?_⟩) (by assumption) ?_
          rotate_left
          · (intro w hSw; (try dsimp only at hSw); go_simp; try with_reducible rfl)
          try simp only [Act.put, List.getElem_toArray, List.getElem_cons_zero, List.getElem_cons_succ, List.setIfInBounds_toArray, List.set_cons_zero, List.set_cons_succ]
          refine wpAnyH_ready (rs := [9]) (by kernel_rfl) (by simp) ?_
          refine AllReadyH.cons rfl (fun K hK => ?_) AllReadyH.nil
          refine step_make_full _ (by rfl) _ _ _ (by rfl) 0 5 i0 (.int .u8 0) 1 Tryz.underlying25 hi hz0 hz1 z (by rfl) (by rfl) (by have := HL.out; rw [hz2]; omega) (by have := HL.out; unfold maxLen; omega) (Nat.zero_le _) wr.heap.size rfl ?_
          intro w8 hown8 hg8
          have ho8 := OB.zeros hown8
          have h8 := (((HSW.out.drew).nilOb 5).grewOb ho8 hg8 (.inr rfl) (by simp)).swap
          obtain ⟨y0, y1, y2, y3, -, -⟩ := pk_cells h8.bring2
          rw [← HLF.out] at y2
          have HRA := WRawA h8 (some ⟨wr.heap.size, 0, none⟩) z _ (List.replicate z 0) (h8.swap.obR.2.2.2) (by rw [List.length_replicate]; have := HL.out; omega)
          rw [List.length_replicate] at HRA
          have HRA := Lib.hid HRA
          clear h8 ho8 hown8 hg8 HSW
          refine hK.out _ _ (by (try dsimp only); go_keep) (fun hHeld => ?_)
          clear hK K
          try simp only [Act.put, List.getElem_toArray, List.getElem_cons_zero, List.getElem_cons_succ, List.setIfInBounds_toArray, List.set_cons_zero, List.set_cons_succ]
          refine wpAnyH_ready (rs := [10]) (by kernel_rfl) (by simp) ?_
          refine AllReadyH.cons rfl (fun K hK => ?_) AllReadyH.nil
          go_simp
          go_at_call 19
          refine HRA.out.mono ?_
          rintro e w9 ⟨rfl, h9⟩
          obtain ⟨b0, b1, b2, b3, -, -⟩ := pk_cells h9.bring2
          rw [← HLF.out] at b2
          have H9 := Lib.hid h9.swap.drop
          clear HRA h9
          refine hK.out _ _ (by (try dsimp only); go_keep) (fun hHeld => ?_)
          clear hK K
          try simp only [Act.put, List.getElem_toArray, List.getElem_cons_zero, List.getElem_cons_succ, List.setIfInBounds_toArray, List.set_cons_zero, List.set_cons_succ]
          refine wpAnyH_done (by kernel_rfl) ?_ _
          go_wp2
          refine wp_region_held_drew (S := (fun w' => w'.cell? ⟨g, 0, none⟩ = some (.pointer (some ⟨gs, 0, none⟩)) ∧ w'.cell? ⟨g, 1, none⟩ = some (.pointer (some ⟨go, 0, none⟩)))) (by kernel_rfl) (by (try dsimp only); go_keep) (fun hHeld => ?_)
          refine wpAnyH_take (i := 0) (v := ?_) rfl (by kernel_rfl) (by kernel_rfl) (by kernel_rfl) (fun _ _ _ h => h) (Or.inl ⟨by rfl, ?_⟩) (by assumption) ?_
          rotate_left
          · (intro w hSw; (try dsimp only at hSw); go_simp; try with_reducible rfl)
          try simp only [Act.put, List.getElem_toArray, List.getElem_cons_zero, List.getElem_cons_succ, List.setIfInBounds_toArray, List.set_cons_zero, List.set_cons_succ]
          refine wpAnyH_take (i := 1) (v := ?_) rfl (by kernel_rfl) (by kernel_rfl) (by kernel_rfl) (fun _ _ _ h => h) (Or.inl ⟨by rfl, ?_⟩) (by assumption) ?_
          rotate_left
          · (intro w hSw; (try dsimp only at hSw); go_simp; try with_reducible rfl)
          try simp only [Act.put, List.getElem_toArray, List.getElem_cons_zero, List.getElem_cons_succ, List.setIfInBounds_toArray, List.set_cons_zero, List.set_cons_succ]
          refine wpAnyH_take (i := 2) (v := ?_) rfl (by kernel_rfl) (by kernel_rfl) (by kernel_rfl) (fun _ _ _ h => h) (Or.inl ⟨by rfl, ?_⟩) (by assumption) ?_
          rotate_left
          · (intro w hSw; (try dsimp only at hSw); go_simp; try with_reducible rfl)
          try simp only [Act.put, List.getElem_toArray, List.getElem_cons_zero, List.getElem_cons_succ, List.setIfInBounds_toArray, List.set_cons_zero, List.set_cons_succ]
          refine wpAnyH_take (i := 3) (v := ?_) rfl (by kernel_rfl) (by kernel_rfl) (by kernel_rfl) (fun _ _ _ h => h) (Or.inl ⟨by rfl, ?_⟩) (by assumption) ?_
          rotate_left
          · (intro w hSw; (try dsimp only at hSw); go_simp; try with_reducible rfl)
          try simp only [Act.put, List.getElem_toArray, List.getElem_cons_zero, List.getElem_cons_succ, List.setIfInBounds_toArray, List.set_cons_zero, List.set_cons_succ]
          refine wpAnyH_take (i := 5) (v := ?_) rfl (by kernel_rfl) (by kernel_rfl) (by kernel_rfl) (fun _ _ _ h => h) (Or.inl ⟨by rfl, ?_⟩) (by assumption) ?_
          rotate_left
          · (intro w hSw; (try dsimp only at hSw); go_simp; try with_reducible rfl)
          try simp only [Act.put, List.getElem_toArray, List.getElem_cons_zero, List.getElem_cons_succ, List.setIfInBounds_toArray, List.set_cons_zero, List.set_cons_succ]
          refine wpAnyH_take (i := 6) (v := ?_) rfl (by kernel_rfl) (by kernel_rfl) (by kernel_rfl) (fun _ _ _ h => h) (Or.inl ⟨by rfl, ?_⟩) (by assumption) ?_
          rotate_left
          · (intro w hSw; (try dsimp only at hSw); go_simp; try with_reducible rfl)
          try simp only [Act.put, List.getElem_toArray, List.getElem_cons_zero, List.getElem_cons_succ, List.setIfInBounds_toArray, List.set_cons_zero, List.set_cons_succ]
          refine wpAnyH_take (i := 7) (v := ?_) rfl (by kernel_rfl) (by kernel_rfl) (by kernel_rfl) (fun _ _ _ h => h) (Or.inl ⟨by rfl, ?_⟩) (by assumption) ?_
          rotate_left
          · (intro w hSw; (try dsimp only at hSw); go_simp; try with_reducible rfl)
          try simp only [Act.put, List.getElem_toArray, List.getElem_cons_zero, List.getElem_cons_succ, List.setIfInBounds_toArray, List.set_cons_zero, List.set_cons_succ]
          refine wpAnyH_take (i := 8) (v := ?_) rfl (by kernel_rfl) (by kernel_rfl) (by kernel_rfl) (fun _ _ _ h => h) (Or.inl ⟨by rfl, ?_⟩) (by assumption) ?_
          rotate_left
          · (intro w hSw; (try dsimp only at hSw); go_simp; try with_reducible rfl)
          try simp only [Act.put, List.getElem_toArray, List.getElem_cons_zero, List.getElem_cons_succ, List.setIfInBounds_toArray, List.set_cons_zero, List.set_cons_succ]
          refine wpAnyH_ready (rs := [4]) (by kernel_rfl) (by simp) ?_
          refine AllReadyH.cons rfl (fun K hK => ?_) AllReadyH.nil
          go_simp
          go_at_call 20
          refine (WBytesA (H9.out.drew) (by rw [List.length_append, List.length_replicate]; have := HL.out; omega)).mono ?_
          rintro e w5 ⟨v5, rfl, h5⟩
          obtain ⟨k0, k1, -, -, -, -⟩ := pk_cells h5.bring2
          have HX := Lib.hid h5
          clear h5
          refine hK.out _ _ (by (try dsimp only); go_keep) (fun hHeld => ?_)
          clear hK K
          try simp only [Act.put, List.getElem_toArray, List.getElem_cons_zero, List.getElem_cons_succ, List.setIfInBounds_toArray, List.set_cons_zero, List.set_cons_succ]
          refine wpAnyH_ready (rs := [9]) (by kernel_rfl) (by simp) ?_
          refine AllReadyH.cons rfl (fun K hK => ?_) AllReadyH.nil
          go_simp
          go_at_call 20
          refine (WBytesA (HX.out.bring3) (by have := HL.out; omega)).mono ?_
          rintro e w6 ⟨v6, rfl, h6⟩
          obtain ⟨j0, j1, -, -, -, -⟩ := pk_cells h6.bring4
          have HY := Lib.hid h6
          clear h6
          refine hK.out _ _ (by (try dsimp only); go_keep) (fun hHeld => ?_)
          clear hK K
          try simp only [Act.put, List.getElem_toArray, List.getElem_cons_zero, List.getElem_cons_succ, List.setIfInBounds_toArray, List.set_cons_zero, List.set_cons_succ]
          refine wpAnyH_take (i := 10) (v := ?_) rfl (by kernel_rfl) (by kernel_rfl) (by kernel_rfl) (fun _ _ _ h => h) (Or.inl ⟨by rfl, ?_⟩) (by assumption) ?_
          rotate_left
          · (intro w hSw; (try dsimp only at hSw); go_simp; try with_reducible rfl)
          try simp only [Act.put, List.getElem_toArray, List.getElem_cons_zero, List.getElem_cons_succ, List.setIfInBounds_toArray, List.set_cons_zero, List.set_cons_succ]
          refine wpAnyH_take (i := 11) (v := ?_) rfl (by kernel_rfl) (by kernel_rfl) (by kernel_rfl) (fun _ _ _ h => h) (Or.inl ⟨by rfl, ?_⟩) (by assumption) ?_
          rotate_left
          · (intro w hSw; (try dsimp only at hSw); go_simp; try with_reducible rfl)
          try simp only [Act.put, List.getElem_toArray, List.getElem_cons_zero, List.getElem_cons_succ, List.setIfInBounds_toArray, List.set_cons_zero, List.set_cons_succ]
          refine wpAnyH_take (i := 12) (v := ?_) rfl (by kernel_rfl) (by kernel_rfl) (by kernel_rfl) (fun _ _ _ h => h) (Or.inl ⟨by rfl, ?_⟩) (by assumption) ?_
          rotate_left
          · (intro w hSw; (try dsimp only at hSw); go_simp; try with_reducible rfl)
          try simp only [Act.put, List.getElem_toArray, List.getElem_cons_zero, List.getElem_cons_succ, List.setIfInBounds_toArray, List.set_cons_zero, List.set_cons_succ]
          refine wpAnyH_done (by kernel_rfl) ?_ _
          go_wp2
          go_ret3
          have h9 := HY.out.bring2.bring2.drop.bring2.drop.bring2.drop
          rw [show z = 8 * p.left by rw [HZ.out, HLF.out]] at h9
          refine ⟨v5, v6, by rw [HPE.out]; rfl, ?_⟩
          rw [HS1.out, HS2.out]
          exact h9
end Go.Proofs.YtgpahglmhnnobaaGreatDoor
