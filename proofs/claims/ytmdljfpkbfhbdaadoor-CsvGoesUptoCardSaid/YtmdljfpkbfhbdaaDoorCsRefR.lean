/- csv: the document's Read, Parse. By mkcsrefr.py. -/
import Derived.Test.YtmdljfpkbfhbdaaDoorCsRefP
namespace Go.Proofs.YtmdljfpkbfhbdaaDoor
open Go.RowKit
set_option linter.unusedVariables false

/-- what Read answers -/
def ReadW (l : Bs) (w : World) (e : Ending) (w' : World) : Prop :=
  ∃ A c X, e = .returned (.tuple #[.slice A X.length c, .int .i64 (csvR l).2]) ∧ rowsOf X = (csvR l).1 ∧ St Zf [RwsA (.slice A X.length c) X] w w'
/-- the objects of Read: the field, the row, the rows -/
def rdL (A6 : Option Addr) (c6 : Nat) (F : List Nat) (A5 : Option Addr) (c5 : Nat) (row : Rw) (A4 : Option Addr) (c4 : Nat) (X : List Rq) : List Ass :=
  [ObA 5 (.slice A6 F.length c6) F, OlA svl 9 (.slice A5 row.length c5) row, RwsA (.slice A4 X.length c4) X]
theorem rd_drop {s : ByteArray} {p : Nat} {x : UInt8} (hp : p < s.size) (hx : s[p]'hp = x) : (lS s).drop p = x :: (lS s).drop (p + 1) := by
  have h1 := byte_at s p hp
  rw [hx] at h1
  obtain ⟨h2, h3⟩ := List.getElem?_eq_some_iff.1 h1
  have h4 := List.drop_eq_getElem_cons h2
  rw [h3] at h4
  exact h4
set_option maxRecDepth 100000 in
set_option maxHeartbeats 4000000 in
theorem Read_any (s : ByteArray) (w : World) (hl : s.size ≤ 1073741824) :
    Calls Tryd.prog 18 #[.string s] w (ReadW (lS s) w) := by
  have HL := Lib.hid hl
  obtain ⟨i0, hi, hz0, hz1, hz2⟩ := info_parts u8_info
  obtain ⟨j0, hj, hy0, hy1, hy2⟩ := info_parts str_info
  obtain ⟨k0, z0, hk0, hx0, hx1, hx2, hx3⟩ := row_info rws_info
  have H0 : Hid (St Zf (rdL (some ⟨w.heap.size + 1 + 1, 0, none⟩) 0 [] (some ⟨w.heap.size + 1, 0, none⟩) 0 [] (some ⟨w.heap.size, 0, none⟩) 0 []) w (((w.alloc (.cells #[] 40)).alloc (.cells #[] 9)).alloc (.cells #[] 5))) := Lib.hid (by
    have h1 : St Zf [RwsA (.slice (some ⟨w.heap.size, 0, none⟩) 0 0) []] w (w.alloc (.cells #[] 40)) := St.pack (l' := [_, _]) (((St.start Zf w).nilSep).newNil Rq.v 40 rfl)
    exact (h1.newNil svl 9 (by simp)).newNilB 5 (by simp))
  clear hl
  go_enter Tryd.func18, Tryd.ntmps18
  go_wp2
  go_loopw [4, 5, 6, 7, 8] (fun v4 v5 v6 v7 v8 wr => ∃ (p : Nat) (st : Cst) (A4 : Option Addr) (c4 : Nat) (X : List Rq) (A5 : Option Addr) (c5 : Nat) (row : Rw) (A6 : Option Addr) (c6 : Nat) (F : List Nat) (fd : Bs), p ≤ s.size ∧ v4 = .slice A4 X.length c4 ∧ v5 = .slice A5 row.length c5 ∧ v6 = .slice A6 F.length c6 ∧ v7 = .int .i64 st.n ∧ v8 = .int .i64 p ∧
    Hid (csvR (lS s) = (rowsOf X ++ (rd st row fd ((lS s).drop p)).1, (rd st row fd ((lS s).drop p)).2)) ∧ Hid (St Zf (rdL A6 c6 F A5 c5 row A4 c4 X) w wr) ∧ Hid (F = nb fd) ∧ Hid (X.length ≤ p ∧ row.length ≤ p ∧ fd.length ≤ p)) (fun _ _ _ _ i _ => s.size - (intOf i).toNat)
  case atStart => exact ⟨0, .b, _, 0, [], _, 0, [], _, 0, [], [], Nat.zero_le _, rfl, rfl, rfl, rfl, rfl, Lib.hid rfl, H0, Lib.hid rfl, Lib.hid ⟨Nat.zero_le _, Nat.zero_le _, Nat.zero_le _⟩⟩
  case round =>
    obtain ⟨p, st, A4, c4, X, A5, c5, row, A6, c6, F, fd, hp, rfl, rfl, rfl, rfl, rfl, HRD, HS, HF, HLN⟩ := hrel
    clear H0
    have HFL : Hid (F.length ≤ p) := Lib.hid (by rw [HF.out, nb_len]; exact HLN.out.2.2)
    by_cases hps : p < s.size
    · have hpw : p < 140737488355328 := by have := HL.out; omega
      have HL1 : Hid (F.length + 1 ≤ 140737488355328) := Lib.hid (by have := HFL.out; omega)
      have HL2 : Hid ((row.length + 1) * 16 ≤ 140737488355328) := Lib.hid (by have := HLN.out; have := HL.out; omega)
      have HL3 : Hid ((X.length + 1) * 24 ≤ 140737488355328) := Lib.hid (by have := HLN.out; have := HL.out; omega)
      obtain ⟨x, hx⟩ : ∃ x : UInt8, s[p]'hps = x := ⟨_, rfl⟩
      have HDR := Lib.hid (rd_drop hps hx)
      have hxlt := x.toNat_lt
      have hne : ∀ n : Nat, n < 256 → x ≠ UInt8.ofNat n → ((x.toNat : Int) == (n : Int)) = false := fun n hn h => by
        rw [beq_eq_false_iff_ne]
        intro e
        exact h (UInt8.toNat_inj.1 (by rw [UInt8.toNat_ofNat']; omega))
      cases st with
      | b =>
        simp only [Cst.n]
        by_cases h34 : x = 34
        · have hxe : x.toNat = 34 := by rw [h34]; rfl
          have f34 : ((x.toNat : Int) == 34) = true := by rw [hxe]; rfl
          have g34 : ((x.toNat : Int) != 34) = false := by rw [hxe]; rfl
          have f44 : ((x.toNat : Int) == 44) = false := by rw [hxe]; rfl
          have g44 : ((x.toNat : Int) != 44) = true := by rw [hxe]; rfl
          have f13 : ((x.toNat : Int) == 13) = false := by rw [hxe]; rfl
          have g13 : ((x.toNat : Int) != 13) = true := by rw [hxe]; rfl
          have f10 : ((x.toNat : Int) == 10) = false := by rw [hxe]; rfl
          have g10 : ((x.toNat : Int) != 10) = true := by rw [hxe]; rfl
          have HRN0 : Hid (rd .b row fd (x :: (lS s).drop (p + 1)) = rd .q row fd ((lS s).drop (p + 1))) := Lib.hid (by simp [rd, h34])
          clear hne
          have HRN : Hid (csvR (lS s) = (rowsOf X ++ (rd .q row fd ((lS s).drop (p + 1))).1, (rd .q row fd ((lS s).drop (p + 1))).2)) := Lib.hid (by rw [HRD.out, HDR.out, HRN0.out])
          go_wp2
          go_roundw
          case rel => exact ⟨p + 1, .q, A4, c4, X, A5, c5, row, A6, c6, F, fd, by omega, rfl, rfl, rfl, rfl, by go_num, HRN, HS, HF, Lib.hid (by have := HLN.out; omega)⟩
          case measure => simp [intOf]; omega
        · by_cases h44 : x = 44
          · have hxe : x.toNat = 44 := by rw [h44]; rfl
            have f34 : ((x.toNat : Int) == 34) = false := by rw [hxe]; rfl
            have g34 : ((x.toNat : Int) != 34) = true := by rw [hxe]; rfl
            have f44 : ((x.toNat : Int) == 44) = true := by rw [hxe]; rfl
            have g44 : ((x.toNat : Int) != 44) = false := by rw [hxe]; rfl
            have f13 : ((x.toNat : Int) == 13) = false := by rw [hxe]; rfl
            have g13 : ((x.toNat : Int) != 13) = true := by rw [hxe]; rfl
            have f10 : ((x.toNat : Int) == 10) = false := by rw [hxe]; rfl
            have g10 : ((x.toNat : Int) != 10) = true := by rw [hxe]; rfl
            have HRN0 : Hid (rd .b row fd (x :: (lS s).drop (p + 1)) = rd .b (row ++ [mkS fd]) [] ((lS s).drop (p + 1))) := Lib.hid (by simp [rd, h44])
            clear hne
            have hcv := run_bytes_str (P := Tryd.prog) (w := wr) 44 9 5 c6 Tryd.underlying44 Tryd.underlying5 Tryd.underlying9 HS.out.ob.reads.2.1
            rw [HF.out, strOf_nb, ← HF.out] at hcv
            have HS1 := Lib.hid HS.out.swap
            go_wp2_with (at_builtin; refine wpList_append_elemN _ rfl _ _ 40 rfl 0 9 j0 _ 16 Tryd.underlying40 hj hy0 hy1 hy2 rfl _ row (by rfl) HS1.out.ol (mkS fd) (svl_ok _) _ rfl (by rfl) HL2.out (by omega) (Nat.zero_le _) ?_; intro vb wb hownb hgb hatb; have hb := HS1.out.grewOl hownb hgb hatb (Nat.le_succ _); obtain ⟨Ob, hOb⟩ : ∃ P, P = row ++ [mkS fd] := ⟨_, rfl⟩; rw [← hOb] at hownb hb; obtain ⟨Ab, cb, rfl, -, -, -, -⟩ := hownb.form; have Hb := Lib.hid hb; have HOb := Lib.hid hOb; clear hownb hgb hatb hb hOb)
            have HRN : Hid (csvR (lS s) = (rowsOf X ++ (rd .b Ob [] ((lS s).drop (p + 1))).1, (rd .b Ob [] ((lS s).drop (p + 1))).2)) := Lib.hid (by rw [HRD.out, HDR.out, HRN0.out, HOb.out])
            have HSN : Hid (St Zf (rdL (some ⟨wb.heap.size, 0, none⟩) 0 [] Ab cb Ob A4 c4 X) w (wb.alloc (.cells #[] 5))) := Lib.hid ((Hb.out.swap.drop).newNilB 5 rfl)
            have HBL : Hid (Ob.length ≤ p + 1) := Lib.hid (by rw [HOb.out, List.length_append, List.length_singleton]; have := HLN.out; omega)
            clear hcv
            go_wp2
            go_roundw
            case rel => exact ⟨p + 1, .b, A4, c4, X, Ab, cb, Ob, _, 0, [], [], by omega, rfl, rfl, rfl, rfl, by go_num, HRN, HSN, Lib.hid rfl, Lib.hid (by have := HLN.out; have := HBL.out; simp; omega)⟩
            case measure => simp [intOf]; omega
          · by_cases h13 : x = 13
            · have hxe : x.toNat = 13 := by rw [h13]; rfl
              have f34 : ((x.toNat : Int) == 34) = false := by rw [hxe]; rfl
              have g34 : ((x.toNat : Int) != 34) = true := by rw [hxe]; rfl
              have f44 : ((x.toNat : Int) == 44) = false := by rw [hxe]; rfl
              have g44 : ((x.toNat : Int) != 44) = true := by rw [hxe]; rfl
              have f13 : ((x.toNat : Int) == 13) = true := by rw [hxe]; rfl
              have g13 : ((x.toNat : Int) != 13) = false := by rw [hxe]; rfl
              have f10 : ((x.toNat : Int) == 10) = false := by rw [hxe]; rfl
              have g10 : ((x.toNat : Int) != 10) = true := by rw [hxe]; rfl
              have HRN0 : Hid (rd .b row fd (x :: (lS s).drop (p + 1)) = rd .k (row ++ [mkS fd]) [] ((lS s).drop (p + 1))) := Lib.hid (by simp [rd, h13])
              clear hne
              have hcv := run_bytes_str (P := Tryd.prog) (w := wr) 44 9 5 c6 Tryd.underlying44 Tryd.underlying5 Tryd.underlying9 HS.out.ob.reads.2.1
              rw [HF.out, strOf_nb, ← HF.out] at hcv
              have HS1 := Lib.hid HS.out.swap
              go_wp2_with (at_builtin; refine wpList_append_elemN _ rfl _ _ 40 rfl 0 9 j0 _ 16 Tryd.underlying40 hj hy0 hy1 hy2 rfl _ row (by rfl) HS1.out.ol (mkS fd) (svl_ok _) _ rfl (by rfl) HL2.out (by omega) (Nat.zero_le _) ?_; intro vb wb hownb hgb hatb; have hb := HS1.out.grewOl hownb hgb hatb (Nat.le_succ _); obtain ⟨Ob, hOb⟩ : ∃ P, P = row ++ [mkS fd] := ⟨_, rfl⟩; rw [← hOb] at hownb hb; obtain ⟨Ab, cb, rfl, -, -, -, -⟩ := hownb.form; have Hb := Lib.hid hb; have HOb := Lib.hid hOb; clear hownb hgb hatb hb hOb)
              have HRN : Hid (csvR (lS s) = (rowsOf X ++ (rd .k Ob [] ((lS s).drop (p + 1))).1, (rd .k Ob [] ((lS s).drop (p + 1))).2)) := Lib.hid (by rw [HRD.out, HDR.out, HRN0.out, HOb.out])
              have HSN : Hid (St Zf (rdL (some ⟨wb.heap.size, 0, none⟩) 0 [] Ab cb Ob A4 c4 X) w (wb.alloc (.cells #[] 5))) := Lib.hid ((Hb.out.swap.drop).newNilB 5 rfl)
              have HBL : Hid (Ob.length ≤ p + 1) := Lib.hid (by rw [HOb.out, List.length_append, List.length_singleton]; have := HLN.out; omega)
              clear hcv
              go_wp2
              go_roundw
              case rel => exact ⟨p + 1, .k, A4, c4, X, Ab, cb, Ob, _, 0, [], [], by omega, rfl, rfl, rfl, rfl, by go_num, HRN, HSN, Lib.hid rfl, Lib.hid (by have := HLN.out; have := HBL.out; simp; omega)⟩
              case measure => simp [intOf]; omega
            · by_cases h10 : x = 10
              · have hxe : x.toNat = 10 := by rw [h10]; rfl
                have f34 : ((x.toNat : Int) == 34) = false := by rw [hxe]; rfl
                have g34 : ((x.toNat : Int) != 34) = true := by rw [hxe]; rfl
                have f44 : ((x.toNat : Int) == 44) = false := by rw [hxe]; rfl
                have g44 : ((x.toNat : Int) != 44) = true := by rw [hxe]; rfl
                have f13 : ((x.toNat : Int) == 13) = false := by rw [hxe]; rfl
                have g13 : ((x.toNat : Int) != 13) = true := by rw [hxe]; rfl
                have f10 : ((x.toNat : Int) == 10) = true := by rw [hxe]; rfl
                have g10 : ((x.toNat : Int) != 10) = false := by rw [hxe]; rfl
                have HRE : Hid (csvR (lS s) = (rowsOf X, 211)) := Lib.hid (by
                  rw [HRD.out, HDR.out, show rd .b row fd (x :: (lS s).drop (p + 1)) = ([], 211) by simp [rd, h10]]
                  simp)
                have HSR : Hid (St Zf [RwsA (.slice A4 X.length c4) X] w wr) := Lib.hid HS.out.drop.drop
                clear hne HDR
                go_wp2
                go_ret2
                exact ⟨A4, c4, X, by rw [HRE.out]; rfl, by rw [HRE.out], HSR.out⟩
              · have f34 : ((x.toNat : Int) == 34) = false := hne 34 (by decide) h34
                have g34 : ((x.toNat : Int) != 34) = true := by rw [bne, f34]; rfl
                have f44 : ((x.toNat : Int) == 44) = false := hne 44 (by decide) h44
                have g44 : ((x.toNat : Int) != 44) = true := by rw [bne, f44]; rfl
                have f13 : ((x.toNat : Int) == 13) = false := hne 13 (by decide) h13
                have g13 : ((x.toNat : Int) != 13) = true := by rw [bne, f13]; rfl
                have f10 : ((x.toNat : Int) == 10) = false := hne 10 (by decide) h10
                have g10 : ((x.toNat : Int) != 10) = true := by rw [bne, f10]; rfl
                have HRN0 : Hid (rd .b row fd (x :: (lS s).drop (p + 1)) = rd .p row (fd ++ [x]) ((lS s).drop (p + 1))) := Lib.hid (by simp [rd, h34, h44, h13, h10])
                clear hne
                go_wp2_with (at_builtin; refine wpList_append_lit8 _ rfl _ _ 44 rfl 0 5 i0 Tryd.underlying44 hi hz0 hz1 hz2 _ F x.toNat (by rfl) HS.out.ob (by rfl) x.toNat rfl hxlt HL1.out (Nat.zero_le _) ?_; intro va wa howna hga hata; have ha := HS.out.grewOb howna hga hata (Nat.le_succ _); obtain ⟨Oa, hOa⟩ : ∃ P, P = F ++ [x.toNat] := ⟨_, rfl⟩; rw [← hOa] at howna ha; obtain ⟨Aa, ca, rfl, -, -, -, -⟩ := howna.form; have Ha := Lib.hid ha; have HOa := Lib.hid hOa; clear howna hga hata ha hOa)
                have HRN : Hid (csvR (lS s) = (rowsOf X ++ (rd .p row (fd ++ [x]) ((lS s).drop (p + 1))).1, (rd .p row (fd ++ [x]) ((lS s).drop (p + 1))).2)) := Lib.hid (by rw [HRD.out, HDR.out, HRN0.out])
                have HFN : Hid (Oa = nb (fd ++ [x])) := Lib.hid (by rw [HOa.out, HF.out, nb_app]; rfl)
                go_wp2
                go_roundw
                case rel => exact ⟨p + 1, .p, A4, c4, X, A5, c5, row, Aa, ca, Oa, fd ++ [x], by omega, rfl, rfl, rfl, rfl, by go_num, HRN, Ha, HFN, Lib.hid (by have := HLN.out; simp; omega)⟩
                case measure => simp [intOf]; omega
      | p =>
        simp only [Cst.n]
        by_cases h34 : x = 34
        · have hxe : x.toNat = 34 := by rw [h34]; rfl
          have f34 : ((x.toNat : Int) == 34) = true := by rw [hxe]; rfl
          have g34 : ((x.toNat : Int) != 34) = false := by rw [hxe]; rfl
          have f44 : ((x.toNat : Int) == 44) = false := by rw [hxe]; rfl
          have g44 : ((x.toNat : Int) != 44) = true := by rw [hxe]; rfl
          have f13 : ((x.toNat : Int) == 13) = false := by rw [hxe]; rfl
          have g13 : ((x.toNat : Int) != 13) = true := by rw [hxe]; rfl
          have f10 : ((x.toNat : Int) == 10) = false := by rw [hxe]; rfl
          have g10 : ((x.toNat : Int) != 10) = true := by rw [hxe]; rfl
          have HRE : Hid (csvR (lS s) = (rowsOf X, 210)) := Lib.hid (by
            rw [HRD.out, HDR.out, show rd .p row fd (x :: (lS s).drop (p + 1)) = ([], 210) by simp [rd, h34]]
            simp)
          have HSR : Hid (St Zf [RwsA (.slice A4 X.length c4) X] w wr) := Lib.hid HS.out.drop.drop
          clear hne HDR
          go_wp2
          go_ret2
          exact ⟨A4, c4, X, by rw [HRE.out]; rfl, by rw [HRE.out], HSR.out⟩
        · by_cases h44 : x = 44
          · have hxe : x.toNat = 44 := by rw [h44]; rfl
            have f34 : ((x.toNat : Int) == 34) = false := by rw [hxe]; rfl
            have g34 : ((x.toNat : Int) != 34) = true := by rw [hxe]; rfl
            have f44 : ((x.toNat : Int) == 44) = true := by rw [hxe]; rfl
            have g44 : ((x.toNat : Int) != 44) = false := by rw [hxe]; rfl
            have f13 : ((x.toNat : Int) == 13) = false := by rw [hxe]; rfl
            have g13 : ((x.toNat : Int) != 13) = true := by rw [hxe]; rfl
            have f10 : ((x.toNat : Int) == 10) = false := by rw [hxe]; rfl
            have g10 : ((x.toNat : Int) != 10) = true := by rw [hxe]; rfl
            have HRN0 : Hid (rd .p row fd (x :: (lS s).drop (p + 1)) = rd .b (row ++ [mkS fd]) [] ((lS s).drop (p + 1))) := Lib.hid (by simp [rd, h44])
            clear hne
            have hcv := run_bytes_str (P := Tryd.prog) (w := wr) 44 9 5 c6 Tryd.underlying44 Tryd.underlying5 Tryd.underlying9 HS.out.ob.reads.2.1
            rw [HF.out, strOf_nb, ← HF.out] at hcv
            have HS1 := Lib.hid HS.out.swap
            go_wp2_with (at_builtin; refine wpList_append_elemN _ rfl _ _ 40 rfl 0 9 j0 _ 16 Tryd.underlying40 hj hy0 hy1 hy2 rfl _ row (by rfl) HS1.out.ol (mkS fd) (svl_ok _) _ rfl (by rfl) HL2.out (by omega) (Nat.zero_le _) ?_; intro vb wb hownb hgb hatb; have hb := HS1.out.grewOl hownb hgb hatb (Nat.le_succ _); obtain ⟨Ob, hOb⟩ : ∃ P, P = row ++ [mkS fd] := ⟨_, rfl⟩; rw [← hOb] at hownb hb; obtain ⟨Ab, cb, rfl, -, -, -, -⟩ := hownb.form; have Hb := Lib.hid hb; have HOb := Lib.hid hOb; clear hownb hgb hatb hb hOb)
            have HRN : Hid (csvR (lS s) = (rowsOf X ++ (rd .b Ob [] ((lS s).drop (p + 1))).1, (rd .b Ob [] ((lS s).drop (p + 1))).2)) := Lib.hid (by rw [HRD.out, HDR.out, HRN0.out, HOb.out])
            have HSN : Hid (St Zf (rdL (some ⟨wb.heap.size, 0, none⟩) 0 [] Ab cb Ob A4 c4 X) w (wb.alloc (.cells #[] 5))) := Lib.hid ((Hb.out.swap.drop).newNilB 5 rfl)
            have HBL : Hid (Ob.length ≤ p + 1) := Lib.hid (by rw [HOb.out, List.length_append, List.length_singleton]; have := HLN.out; omega)
            clear hcv
            go_wp2
            go_roundw
            case rel => exact ⟨p + 1, .b, A4, c4, X, Ab, cb, Ob, _, 0, [], [], by omega, rfl, rfl, rfl, rfl, by go_num, HRN, HSN, Lib.hid rfl, Lib.hid (by have := HLN.out; have := HBL.out; simp; omega)⟩
            case measure => simp [intOf]; omega
          · by_cases h13 : x = 13
            · have hxe : x.toNat = 13 := by rw [h13]; rfl
              have f34 : ((x.toNat : Int) == 34) = false := by rw [hxe]; rfl
              have g34 : ((x.toNat : Int) != 34) = true := by rw [hxe]; rfl
              have f44 : ((x.toNat : Int) == 44) = false := by rw [hxe]; rfl
              have g44 : ((x.toNat : Int) != 44) = true := by rw [hxe]; rfl
              have f13 : ((x.toNat : Int) == 13) = true := by rw [hxe]; rfl
              have g13 : ((x.toNat : Int) != 13) = false := by rw [hxe]; rfl
              have f10 : ((x.toNat : Int) == 10) = false := by rw [hxe]; rfl
              have g10 : ((x.toNat : Int) != 10) = true := by rw [hxe]; rfl
              have HRN0 : Hid (rd .p row fd (x :: (lS s).drop (p + 1)) = rd .k (row ++ [mkS fd]) [] ((lS s).drop (p + 1))) := Lib.hid (by simp [rd, h13])
              clear hne
              have hcv := run_bytes_str (P := Tryd.prog) (w := wr) 44 9 5 c6 Tryd.underlying44 Tryd.underlying5 Tryd.underlying9 HS.out.ob.reads.2.1
              rw [HF.out, strOf_nb, ← HF.out] at hcv
              have HS1 := Lib.hid HS.out.swap
              go_wp2_with (at_builtin; refine wpList_append_elemN _ rfl _ _ 40 rfl 0 9 j0 _ 16 Tryd.underlying40 hj hy0 hy1 hy2 rfl _ row (by rfl) HS1.out.ol (mkS fd) (svl_ok _) _ rfl (by rfl) HL2.out (by omega) (Nat.zero_le _) ?_; intro vb wb hownb hgb hatb; have hb := HS1.out.grewOl hownb hgb hatb (Nat.le_succ _); obtain ⟨Ob, hOb⟩ : ∃ P, P = row ++ [mkS fd] := ⟨_, rfl⟩; rw [← hOb] at hownb hb; obtain ⟨Ab, cb, rfl, -, -, -, -⟩ := hownb.form; have Hb := Lib.hid hb; have HOb := Lib.hid hOb; clear hownb hgb hatb hb hOb)
              have HRN : Hid (csvR (lS s) = (rowsOf X ++ (rd .k Ob [] ((lS s).drop (p + 1))).1, (rd .k Ob [] ((lS s).drop (p + 1))).2)) := Lib.hid (by rw [HRD.out, HDR.out, HRN0.out, HOb.out])
              have HSN : Hid (St Zf (rdL (some ⟨wb.heap.size, 0, none⟩) 0 [] Ab cb Ob A4 c4 X) w (wb.alloc (.cells #[] 5))) := Lib.hid ((Hb.out.swap.drop).newNilB 5 rfl)
              have HBL : Hid (Ob.length ≤ p + 1) := Lib.hid (by rw [HOb.out, List.length_append, List.length_singleton]; have := HLN.out; omega)
              clear hcv
              go_wp2
              go_roundw
              case rel => exact ⟨p + 1, .k, A4, c4, X, Ab, cb, Ob, _, 0, [], [], by omega, rfl, rfl, rfl, rfl, by go_num, HRN, HSN, Lib.hid rfl, Lib.hid (by have := HLN.out; have := HBL.out; simp; omega)⟩
              case measure => simp [intOf]; omega
            · by_cases h10 : x = 10
              · have hxe : x.toNat = 10 := by rw [h10]; rfl
                have f34 : ((x.toNat : Int) == 34) = false := by rw [hxe]; rfl
                have g34 : ((x.toNat : Int) != 34) = true := by rw [hxe]; rfl
                have f44 : ((x.toNat : Int) == 44) = false := by rw [hxe]; rfl
                have g44 : ((x.toNat : Int) != 44) = true := by rw [hxe]; rfl
                have f13 : ((x.toNat : Int) == 13) = false := by rw [hxe]; rfl
                have g13 : ((x.toNat : Int) != 13) = true := by rw [hxe]; rfl
                have f10 : ((x.toNat : Int) == 10) = true := by rw [hxe]; rfl
                have g10 : ((x.toNat : Int) != 10) = false := by rw [hxe]; rfl
                have HRE : Hid (csvR (lS s) = (rowsOf X, 211)) := Lib.hid (by
                  rw [HRD.out, HDR.out, show rd .p row fd (x :: (lS s).drop (p + 1)) = ([], 211) by simp [rd, h10]]
                  simp)
                have HSR : Hid (St Zf [RwsA (.slice A4 X.length c4) X] w wr) := Lib.hid HS.out.drop.drop
                clear hne HDR
                go_wp2
                go_ret2
                exact ⟨A4, c4, X, by rw [HRE.out]; rfl, by rw [HRE.out], HSR.out⟩
              · have f34 : ((x.toNat : Int) == 34) = false := hne 34 (by decide) h34
                have g34 : ((x.toNat : Int) != 34) = true := by rw [bne, f34]; rfl
                have f44 : ((x.toNat : Int) == 44) = false := hne 44 (by decide) h44
                have g44 : ((x.toNat : Int) != 44) = true := by rw [bne, f44]; rfl
                have f13 : ((x.toNat : Int) == 13) = false := hne 13 (by decide) h13
                have g13 : ((x.toNat : Int) != 13) = true := by rw [bne, f13]; rfl
                have f10 : ((x.toNat : Int) == 10) = false := hne 10 (by decide) h10
                have g10 : ((x.toNat : Int) != 10) = true := by rw [bne, f10]; rfl
                have HRN0 : Hid (rd .p row fd (x :: (lS s).drop (p + 1)) = rd .p row (fd ++ [x]) ((lS s).drop (p + 1))) := Lib.hid (by simp [rd, h34, h44, h13, h10])
                clear hne
                go_wp2_with (at_builtin; refine wpList_append_lit8 _ rfl _ _ 44 rfl 0 5 i0 Tryd.underlying44 hi hz0 hz1 hz2 _ F x.toNat (by rfl) HS.out.ob (by rfl) x.toNat rfl hxlt HL1.out (Nat.zero_le _) ?_; intro va wa howna hga hata; have ha := HS.out.grewOb howna hga hata (Nat.le_succ _); obtain ⟨Oa, hOa⟩ : ∃ P, P = F ++ [x.toNat] := ⟨_, rfl⟩; rw [← hOa] at howna ha; obtain ⟨Aa, ca, rfl, -, -, -, -⟩ := howna.form; have Ha := Lib.hid ha; have HOa := Lib.hid hOa; clear howna hga hata ha hOa)
                have HRN : Hid (csvR (lS s) = (rowsOf X ++ (rd .p row (fd ++ [x]) ((lS s).drop (p + 1))).1, (rd .p row (fd ++ [x]) ((lS s).drop (p + 1))).2)) := Lib.hid (by rw [HRD.out, HDR.out, HRN0.out])
                have HFN : Hid (Oa = nb (fd ++ [x])) := Lib.hid (by rw [HOa.out, HF.out, nb_app]; rfl)
                go_wp2
                go_roundw
                case rel => exact ⟨p + 1, .p, A4, c4, X, A5, c5, row, Aa, ca, Oa, fd ++ [x], by omega, rfl, rfl, rfl, rfl, by go_num, HRN, Ha, HFN, Lib.hid (by have := HLN.out; simp; omega)⟩
                case measure => simp [intOf]; omega
      | q =>
        simp only [Cst.n]
        by_cases h34 : x = 34
        · have hxe : x.toNat = 34 := by rw [h34]; rfl
          have f34 : ((x.toNat : Int) == 34) = true := by rw [hxe]; rfl
          have g34 : ((x.toNat : Int) != 34) = false := by rw [hxe]; rfl
          have HRN0 : Hid (rd .q row fd (x :: (lS s).drop (p + 1)) = rd .c row fd ((lS s).drop (p + 1))) := Lib.hid (by simp [rd, h34])
          clear hne
          have HRN : Hid (csvR (lS s) = (rowsOf X ++ (rd .c row fd ((lS s).drop (p + 1))).1, (rd .c row fd ((lS s).drop (p + 1))).2)) := Lib.hid (by rw [HRD.out, HDR.out, HRN0.out])
          go_wp2
          go_roundw
          case rel => exact ⟨p + 1, .c, A4, c4, X, A5, c5, row, A6, c6, F, fd, by omega, rfl, rfl, rfl, rfl, by go_num, HRN, HS, HF, Lib.hid (by have := HLN.out; omega)⟩
          case measure => simp [intOf]; omega
        · have f34 : ((x.toNat : Int) == 34) = false := hne 34 (by decide) h34
          have g34 : ((x.toNat : Int) != 34) = true := by rw [bne, f34]; rfl
          have HRN0 : Hid (rd .q row fd (x :: (lS s).drop (p + 1)) = rd .q row (fd ++ [x]) ((lS s).drop (p + 1))) := Lib.hid (by simp [rd, h34])
          clear hne
          go_wp2_with (at_builtin; refine wpList_append_lit8 _ rfl _ _ 44 rfl 0 5 i0 Tryd.underlying44 hi hz0 hz1 hz2 _ F x.toNat (by rfl) HS.out.ob (by rfl) x.toNat rfl hxlt HL1.out (Nat.zero_le _) ?_; intro va wa howna hga hata; have ha := HS.out.grewOb howna hga hata (Nat.le_succ _); obtain ⟨Oa, hOa⟩ : ∃ P, P = F ++ [x.toNat] := ⟨_, rfl⟩; rw [← hOa] at howna ha; obtain ⟨Aa, ca, rfl, -, -, -, -⟩ := howna.form; have Ha := Lib.hid ha; have HOa := Lib.hid hOa; clear howna hga hata ha hOa)
          have HRN : Hid (csvR (lS s) = (rowsOf X ++ (rd .q row (fd ++ [x]) ((lS s).drop (p + 1))).1, (rd .q row (fd ++ [x]) ((lS s).drop (p + 1))).2)) := Lib.hid (by rw [HRD.out, HDR.out, HRN0.out])
          have HFN : Hid (Oa = nb (fd ++ [x])) := Lib.hid (by rw [HOa.out, HF.out, nb_app]; rfl)
          go_wp2
          go_roundw
          case rel => exact ⟨p + 1, .q, A4, c4, X, A5, c5, row, Aa, ca, Oa, fd ++ [x], by omega, rfl, rfl, rfl, rfl, by go_num, HRN, Ha, HFN, Lib.hid (by have := HLN.out; simp; omega)⟩
          case measure => simp [intOf]; omega
      | c =>
        simp only [Cst.n]
        by_cases h34 : x = 34
        · have hxe : x.toNat = 34 := by rw [h34]; rfl
          have f34 : ((x.toNat : Int) == 34) = true := by rw [hxe]; rfl
          have g34 : ((x.toNat : Int) != 34) = false := by rw [hxe]; rfl
          have f44 : ((x.toNat : Int) == 44) = false := by rw [hxe]; rfl
          have g44 : ((x.toNat : Int) != 44) = true := by rw [hxe]; rfl
          have f13 : ((x.toNat : Int) == 13) = false := by rw [hxe]; rfl
          have g13 : ((x.toNat : Int) != 13) = true := by rw [hxe]; rfl
          have f10 : ((x.toNat : Int) == 10) = false := by rw [hxe]; rfl
          have g10 : ((x.toNat : Int) != 10) = true := by rw [hxe]; rfl
          have HRN0 : Hid (rd .c row fd (x :: (lS s).drop (p + 1)) = rd .q row (fd ++ [x]) ((lS s).drop (p + 1))) := Lib.hid (by simp [rd, h34])
          clear hne
          go_wp2_with (at_builtin; refine wpList_append_lit8 _ rfl _ _ 44 rfl 0 5 i0 Tryd.underlying44 hi hz0 hz1 hz2 _ F 34 (by rfl) HS.out.ob (by rfl) 34 rfl (by decide) HL1.out (Nat.zero_le _) ?_; intro va wa howna hga hata; have ha := HS.out.grewOb howna hga hata (Nat.le_succ _); obtain ⟨Oa, hOa⟩ : ∃ P, P = F ++ [34] := ⟨_, rfl⟩; rw [← hOa] at howna ha; obtain ⟨Aa, ca, rfl, -, -, -, -⟩ := howna.form; have Ha := Lib.hid ha; have HOa := Lib.hid hOa; clear howna hga hata ha hOa)
          have HRN : Hid (csvR (lS s) = (rowsOf X ++ (rd .q row (fd ++ [x]) ((lS s).drop (p + 1))).1, (rd .q row (fd ++ [x]) ((lS s).drop (p + 1))).2)) := Lib.hid (by rw [HRD.out, HDR.out, HRN0.out])
          have HFN : Hid (Oa = nb (fd ++ [x])) := Lib.hid (by rw [HOa.out, HF.out, nb_app]; simp [nb, hxe])
          go_wp2
          go_roundw
          case rel => exact ⟨p + 1, .q, A4, c4, X, A5, c5, row, Aa, ca, Oa, fd ++ [x], by omega, rfl, rfl, rfl, rfl, by go_num, HRN, Ha, HFN, Lib.hid (by have := HLN.out; simp; omega)⟩
          case measure => simp [intOf]; omega
        · by_cases h44 : x = 44
          · have hxe : x.toNat = 44 := by rw [h44]; rfl
            have f34 : ((x.toNat : Int) == 34) = false := by rw [hxe]; rfl
            have g34 : ((x.toNat : Int) != 34) = true := by rw [hxe]; rfl
            have f44 : ((x.toNat : Int) == 44) = true := by rw [hxe]; rfl
            have g44 : ((x.toNat : Int) != 44) = false := by rw [hxe]; rfl
            have f13 : ((x.toNat : Int) == 13) = false := by rw [hxe]; rfl
            have g13 : ((x.toNat : Int) != 13) = true := by rw [hxe]; rfl
            have f10 : ((x.toNat : Int) == 10) = false := by rw [hxe]; rfl
            have g10 : ((x.toNat : Int) != 10) = true := by rw [hxe]; rfl
            have HRN0 : Hid (rd .c row fd (x :: (lS s).drop (p + 1)) = rd .b (row ++ [mkS fd]) [] ((lS s).drop (p + 1))) := Lib.hid (by simp [rd, h44])
            clear hne
            have hcv := run_bytes_str (P := Tryd.prog) (w := wr) 44 9 5 c6 Tryd.underlying44 Tryd.underlying5 Tryd.underlying9 HS.out.ob.reads.2.1
            rw [HF.out, strOf_nb, ← HF.out] at hcv
            have HS1 := Lib.hid HS.out.swap
            go_wp2_with (at_builtin; refine wpList_append_elemN _ rfl _ _ 40 rfl 0 9 j0 _ 16 Tryd.underlying40 hj hy0 hy1 hy2 rfl _ row (by rfl) HS1.out.ol (mkS fd) (svl_ok _) _ rfl (by rfl) HL2.out (by omega) (Nat.zero_le _) ?_; intro vb wb hownb hgb hatb; have hb := HS1.out.grewOl hownb hgb hatb (Nat.le_succ _); obtain ⟨Ob, hOb⟩ : ∃ P, P = row ++ [mkS fd] := ⟨_, rfl⟩; rw [← hOb] at hownb hb; obtain ⟨Ab, cb, rfl, -, -, -, -⟩ := hownb.form; have Hb := Lib.hid hb; have HOb := Lib.hid hOb; clear hownb hgb hatb hb hOb)
            have HRN : Hid (csvR (lS s) = (rowsOf X ++ (rd .b Ob [] ((lS s).drop (p + 1))).1, (rd .b Ob [] ((lS s).drop (p + 1))).2)) := Lib.hid (by rw [HRD.out, HDR.out, HRN0.out, HOb.out])
            have HSN : Hid (St Zf (rdL (some ⟨wb.heap.size, 0, none⟩) 0 [] Ab cb Ob A4 c4 X) w (wb.alloc (.cells #[] 5))) := Lib.hid ((Hb.out.swap.drop).newNilB 5 rfl)
            have HBL : Hid (Ob.length ≤ p + 1) := Lib.hid (by rw [HOb.out, List.length_append, List.length_singleton]; have := HLN.out; omega)
            clear hcv
            go_wp2
            go_roundw
            case rel => exact ⟨p + 1, .b, A4, c4, X, Ab, cb, Ob, _, 0, [], [], by omega, rfl, rfl, rfl, rfl, by go_num, HRN, HSN, Lib.hid rfl, Lib.hid (by have := HLN.out; have := HBL.out; simp; omega)⟩
            case measure => simp [intOf]; omega
          · by_cases h13 : x = 13
            · have hxe : x.toNat = 13 := by rw [h13]; rfl
              have f34 : ((x.toNat : Int) == 34) = false := by rw [hxe]; rfl
              have g34 : ((x.toNat : Int) != 34) = true := by rw [hxe]; rfl
              have f44 : ((x.toNat : Int) == 44) = false := by rw [hxe]; rfl
              have g44 : ((x.toNat : Int) != 44) = true := by rw [hxe]; rfl
              have f13 : ((x.toNat : Int) == 13) = true := by rw [hxe]; rfl
              have g13 : ((x.toNat : Int) != 13) = false := by rw [hxe]; rfl
              have f10 : ((x.toNat : Int) == 10) = false := by rw [hxe]; rfl
              have g10 : ((x.toNat : Int) != 10) = true := by rw [hxe]; rfl
              have HRN0 : Hid (rd .c row fd (x :: (lS s).drop (p + 1)) = rd .k (row ++ [mkS fd]) [] ((lS s).drop (p + 1))) := Lib.hid (by simp [rd, h13])
              clear hne
              have hcv := run_bytes_str (P := Tryd.prog) (w := wr) 44 9 5 c6 Tryd.underlying44 Tryd.underlying5 Tryd.underlying9 HS.out.ob.reads.2.1
              rw [HF.out, strOf_nb, ← HF.out] at hcv
              have HS1 := Lib.hid HS.out.swap
              go_wp2_with (at_builtin; refine wpList_append_elemN _ rfl _ _ 40 rfl 0 9 j0 _ 16 Tryd.underlying40 hj hy0 hy1 hy2 rfl _ row (by rfl) HS1.out.ol (mkS fd) (svl_ok _) _ rfl (by rfl) HL2.out (by omega) (Nat.zero_le _) ?_; intro vb wb hownb hgb hatb; have hb := HS1.out.grewOl hownb hgb hatb (Nat.le_succ _); obtain ⟨Ob, hOb⟩ : ∃ P, P = row ++ [mkS fd] := ⟨_, rfl⟩; rw [← hOb] at hownb hb; obtain ⟨Ab, cb, rfl, -, -, -, -⟩ := hownb.form; have Hb := Lib.hid hb; have HOb := Lib.hid hOb; clear hownb hgb hatb hb hOb)
              have HRN : Hid (csvR (lS s) = (rowsOf X ++ (rd .k Ob [] ((lS s).drop (p + 1))).1, (rd .k Ob [] ((lS s).drop (p + 1))).2)) := Lib.hid (by rw [HRD.out, HDR.out, HRN0.out, HOb.out])
              have HSN : Hid (St Zf (rdL (some ⟨wb.heap.size, 0, none⟩) 0 [] Ab cb Ob A4 c4 X) w (wb.alloc (.cells #[] 5))) := Lib.hid ((Hb.out.swap.drop).newNilB 5 rfl)
              have HBL : Hid (Ob.length ≤ p + 1) := Lib.hid (by rw [HOb.out, List.length_append, List.length_singleton]; have := HLN.out; omega)
              clear hcv
              go_wp2
              go_roundw
              case rel => exact ⟨p + 1, .k, A4, c4, X, Ab, cb, Ob, _, 0, [], [], by omega, rfl, rfl, rfl, rfl, by go_num, HRN, HSN, Lib.hid rfl, Lib.hid (by have := HLN.out; have := HBL.out; simp; omega)⟩
              case measure => simp [intOf]; omega
            · by_cases h10 : x = 10
              · have hxe : x.toNat = 10 := by rw [h10]; rfl
                have f34 : ((x.toNat : Int) == 34) = false := by rw [hxe]; rfl
                have g34 : ((x.toNat : Int) != 34) = true := by rw [hxe]; rfl
                have f44 : ((x.toNat : Int) == 44) = false := by rw [hxe]; rfl
                have g44 : ((x.toNat : Int) != 44) = true := by rw [hxe]; rfl
                have f13 : ((x.toNat : Int) == 13) = false := by rw [hxe]; rfl
                have g13 : ((x.toNat : Int) != 13) = true := by rw [hxe]; rfl
                have f10 : ((x.toNat : Int) == 10) = true := by rw [hxe]; rfl
                have g10 : ((x.toNat : Int) != 10) = false := by rw [hxe]; rfl
                have HRE : Hid (csvR (lS s) = (rowsOf X, 211)) := Lib.hid (by
                  rw [HRD.out, HDR.out, show rd .c row fd (x :: (lS s).drop (p + 1)) = ([], 211) by simp [rd, h10]]
                  simp)
                have HSR : Hid (St Zf [RwsA (.slice A4 X.length c4) X] w wr) := Lib.hid HS.out.drop.drop
                clear hne HDR
                go_wp2
                go_ret2
                exact ⟨A4, c4, X, by rw [HRE.out]; rfl, by rw [HRE.out], HSR.out⟩
              · have f34 : ((x.toNat : Int) == 34) = false := hne 34 (by decide) h34
                have g34 : ((x.toNat : Int) != 34) = true := by rw [bne, f34]; rfl
                have f44 : ((x.toNat : Int) == 44) = false := hne 44 (by decide) h44
                have g44 : ((x.toNat : Int) != 44) = true := by rw [bne, f44]; rfl
                have f13 : ((x.toNat : Int) == 13) = false := hne 13 (by decide) h13
                have g13 : ((x.toNat : Int) != 13) = true := by rw [bne, f13]; rfl
                have f10 : ((x.toNat : Int) == 10) = false := hne 10 (by decide) h10
                have g10 : ((x.toNat : Int) != 10) = true := by rw [bne, f10]; rfl
                have HRE : Hid (csvR (lS s) = (rowsOf X, 210)) := Lib.hid (by
                  rw [HRD.out, HDR.out, show rd .c row fd (x :: (lS s).drop (p + 1)) = ([], 210) by simp [rd, h34, h44, h13, h10]]
                  simp)
                have HSR : Hid (St Zf [RwsA (.slice A4 X.length c4) X] w wr) := Lib.hid HS.out.drop.drop
                clear hne HDR
                go_wp2
                go_ret2
                exact ⟨A4, c4, X, by rw [HRE.out]; rfl, by rw [HRE.out], HSR.out⟩
      | k =>
        simp only [Cst.n]
        by_cases h10 : x = 10
        · have hxe : x.toNat = 10 := by rw [h10]; rfl
          have f10 : ((x.toNat : Int) == 10) = true := by rw [hxe]; rfl
          have g10 : ((x.toNat : Int) != 10) = false := by rw [hxe]; rfl
          have HRN0 : Hid (rd .k row fd (x :: (lS s).drop (p + 1)) = consR row (rd .b [] [] ((lS s).drop (p + 1)))) := Lib.hid (by simp [rd, h10])
          clear hne
          have HS1 := Lib.hid HS.out.swap.bring2
          go_wp2_with (at_builtin; refine wpList_append_elemN _ rfl _ _ 22 rfl 0 40 k0 z0 24 Tryd.underlying22 hk0 hx0 hx1 hx2 hx3 _ X (by rfl) (St.flat HS1.out).ol ⟨A5, c5, row⟩ (rqv_ok _) _ rfl (by rfl) HL3.out (by omega) (Nat.zero_le _) ?_; intro vr wr9 hownr hgr hatr; have hr := St.snocRws2 (q := ⟨A5, c5, row⟩) HS1.out hownr hgr hatr; obtain ⟨Or, hOr⟩ : ∃ Z, Z = X ++ [(⟨A5, c5, row⟩ : Rq)] := ⟨_, rfl⟩; rw [← hOr] at hownr hr; obtain ⟨Ar, cr, rfl, -, -, -, -⟩ := hownr.form; have Hr := Lib.hid hr; have HOr := Lib.hid hOr; clear hownr hgr hatr hr hOr)
          have HRN : Hid (csvR (lS s) = (rowsOf Or ++ (rd .b [] [] ((lS s).drop (p + 1))).1, (rd .b [] [] ((lS s).drop (p + 1))).2)) := Lib.hid (by
            rw [HRD.out, HDR.out, HRN0.out, HOr.out]
            simp [consR])
          have HSN : Hid (St Zf (rdL (some ⟨wr9.heap.size + 1, 0, none⟩) 0 [] (some ⟨wr9.heap.size, 0, none⟩) 0 [] Ar cr Or) w ((wr9.alloc (.cells #[] 9)).alloc (.cells #[] 5))) := Lib.hid (((Hr.out.newNil svl 9 rfl).newNilB 5 (by simp)).bring3.drop)
          have HBL : Hid (Or.length ≤ p + 1) := Lib.hid (by rw [HOr.out, List.length_append, List.length_singleton]; have := HLN.out; omega)
          go_wp2
          go_roundw
          case rel => exact ⟨p + 1, .b, Ar, cr, Or, _, 0, [], _, 0, [], [], by omega, rfl, rfl, rfl, rfl, by go_num, HRN, HSN, Lib.hid rfl, Lib.hid (by have := HLN.out; have := HBL.out; simp; omega)⟩
          case measure => simp [intOf]; omega
        · have f10 : ((x.toNat : Int) == 10) = false := hne 10 (by decide) h10
          have g10 : ((x.toNat : Int) != 10) = true := by rw [bne, f10]; rfl
          have HRE : Hid (csvR (lS s) = (rowsOf X, 211)) := Lib.hid (by
            rw [HRD.out, HDR.out, show rd .k row fd (x :: (lS s).drop (p + 1)) = ([], 211) by simp [rd, h10]]
            simp)
          have HSR : Hid (St Zf [RwsA (.slice A4 X.length c4) X] w wr) := Lib.hid HS.out.drop.drop
          clear hne HDR
          go_wp2
          go_ret2
          exact ⟨A4, c4, X, by rw [HRE.out]; rfl, by rw [HRE.out], HSR.out⟩
    · have HDE : Hid ((lS s).drop p = []) := Lib.hid (List.drop_of_length_le (by rw [lS_len]; omega))
      have HL2 : Hid ((row.length + 1) * 16 ≤ 140737488355328) := Lib.hid (by have := HLN.out; have := HL.out; omega)
      have HL3 : Hid ((X.length + 1) * 24 ≤ 140737488355328) := Lib.hid (by have := HLN.out; have := HL.out; omega)
      cases st with
      | b =>
        simp only [Cst.n]
        by_cases hr0 : 0 < row.length
        · by_cases hf0 : 0 < F.length
          · have d1 : decide ((0 : Int) < (row.length : Int)) = true := decide_eq_true (by omega)
            have d1' : decide (0 < row.length) = true := decide_eq_true (by omega)
            have d2 : decide ((0 : Int) < (F.length : Int)) = true := decide_eq_true (by omega)
            have d2' : decide (0 < F.length) = true := decide_eq_true (by omega)
            have HRE0 : Hid (rd .b row fd [] = ([row ++ [mkS fd]], 0)) := Lib.hid (by
              have e2 : fd.length = F.length := by rw [HF.out, nb_len]
              unfold rd
              simp only
              rw [if_neg]
              rintro ⟨h1, h2, h3⟩
              first | (cases h3; done) | omega)
            have hcv := run_bytes_str (P := Tryd.prog) (w := wr) 44 9 5 c6 Tryd.underlying44 Tryd.underlying5 Tryd.underlying9 HS.out.ob.reads.2.1
            rw [HF.out, strOf_nb, ← HF.out] at hcv
            have HS1 := Lib.hid HS.out.swap
            go_wp2_with (first
              | (at_builtin; refine wpList_append_elemN _ rfl _ _ 40 rfl 0 9 j0 _ 16 Tryd.underlying40 hj hy0 hy1 hy2 rfl _ row (by rfl) HS1.out.ol (mkS fd) (svl_ok _) _ rfl (by rfl) HL2.out (by omega) (Nat.zero_le _) ?_; intro vb wb hownb hgb hatb; have hb := HS1.out.grewOl hownb hgb hatb (Nat.le_succ _); obtain ⟨Ob, hOb⟩ : ∃ P, P = row ++ [mkS fd] := ⟨_, rfl⟩; rw [← hOb] at hownb hb; obtain ⟨Ab, cb, rfl, -, -, -, -⟩ := hownb.form; have Hb := Lib.hid hb; have HOb := Lib.hid hOb; have HS2 := Lib.hid Hb.out.bring2; clear hownb hgb hatb hb hOb)
              | (at_builtin; refine wpList_append_elemN _ rfl _ _ 22 rfl 0 40 k0 z0 24 Tryd.underlying22 hk0 hx0 hx1 hx2 hx3 _ X (by rfl) (St.flat HS2.out).ol ⟨Ab, cb, Ob⟩ (rqv_ok _) _ rfl (by rfl) HL3.out (by omega) (Nat.zero_le _) ?_; intro vr wr9 hownr hgr hatr; have hr := St.snocRws2 (q := ⟨Ab, cb, Ob⟩) HS2.out hownr hgr hatr; obtain ⟨Or, hOr⟩ : ∃ Z, Z = X ++ [(⟨Ab, cb, Ob⟩ : Rq)] := ⟨_, rfl⟩; rw [← hOr] at hownr hr; obtain ⟨Ar, cr, rfl, -, -, -, -⟩ := hownr.form; have Hr := Lib.hid hr; have HOr := Lib.hid hOr; clear hownr hgr hatr hr hOr))
            have HRE : Hid (csvR (lS s) = (rowsOf Or, 0)) := Lib.hid (by
              rw [HRD.out, HDE.out, HRE0.out, HOr.out, HOb.out]
              simp)
            have HSR : Hid (St Zf [RwsA (.slice Ar Or.length cr) Or] w wr9) := Lib.hid Hr.out.swap.drop
            clear hcv
            go_wp2
            go_ret2
            exact ⟨Ar, cr, Or, by rw [HRE.out]; rfl, by rw [HRE.out], HSR.out⟩
          · have d1 : decide ((0 : Int) < (row.length : Int)) = true := decide_eq_true (by omega)
            have d1' : decide (0 < row.length) = true := decide_eq_true (by omega)
            have d2 : decide ((0 : Int) < (F.length : Int)) = false := decide_eq_false (by omega)
            have d2' : decide (0 < F.length) = false := decide_eq_false (by omega)
            have HRE0 : Hid (rd .b row fd [] = ([row ++ [mkS fd]], 0)) := Lib.hid (by
              have e2 : fd.length = F.length := by rw [HF.out, nb_len]
              unfold rd
              simp only
              rw [if_neg]
              rintro ⟨h1, h2, h3⟩
              first | (cases h3; done) | omega)
            have hcv := run_bytes_str (P := Tryd.prog) (w := wr) 44 9 5 c6 Tryd.underlying44 Tryd.underlying5 Tryd.underlying9 HS.out.ob.reads.2.1
            rw [HF.out, strOf_nb, ← HF.out] at hcv
            have HS1 := Lib.hid HS.out.swap
            go_wp2_with (first
              | (at_builtin; refine wpList_append_elemN _ rfl _ _ 40 rfl 0 9 j0 _ 16 Tryd.underlying40 hj hy0 hy1 hy2 rfl _ row (by rfl) HS1.out.ol (mkS fd) (svl_ok _) _ rfl (by rfl) HL2.out (by omega) (Nat.zero_le _) ?_; intro vb wb hownb hgb hatb; have hb := HS1.out.grewOl hownb hgb hatb (Nat.le_succ _); obtain ⟨Ob, hOb⟩ : ∃ P, P = row ++ [mkS fd] := ⟨_, rfl⟩; rw [← hOb] at hownb hb; obtain ⟨Ab, cb, rfl, -, -, -, -⟩ := hownb.form; have Hb := Lib.hid hb; have HOb := Lib.hid hOb; have HS2 := Lib.hid Hb.out.bring2; clear hownb hgb hatb hb hOb)
              | (at_builtin; refine wpList_append_elemN _ rfl _ _ 22 rfl 0 40 k0 z0 24 Tryd.underlying22 hk0 hx0 hx1 hx2 hx3 _ X (by rfl) (St.flat HS2.out).ol ⟨Ab, cb, Ob⟩ (rqv_ok _) _ rfl (by rfl) HL3.out (by omega) (Nat.zero_le _) ?_; intro vr wr9 hownr hgr hatr; have hr := St.snocRws2 (q := ⟨Ab, cb, Ob⟩) HS2.out hownr hgr hatr; obtain ⟨Or, hOr⟩ : ∃ Z, Z = X ++ [(⟨Ab, cb, Ob⟩ : Rq)] := ⟨_, rfl⟩; rw [← hOr] at hownr hr; obtain ⟨Ar, cr, rfl, -, -, -, -⟩ := hownr.form; have Hr := Lib.hid hr; have HOr := Lib.hid hOr; clear hownr hgr hatr hr hOr))
            have HRE : Hid (csvR (lS s) = (rowsOf Or, 0)) := Lib.hid (by
              rw [HRD.out, HDE.out, HRE0.out, HOr.out, HOb.out]
              simp)
            have HSR : Hid (St Zf [RwsA (.slice Ar Or.length cr) Or] w wr9) := Lib.hid Hr.out.swap.drop
            clear hcv
            go_wp2
            go_ret2
            exact ⟨Ar, cr, Or, by rw [HRE.out]; rfl, by rw [HRE.out], HSR.out⟩
        · by_cases hf0 : 0 < F.length
          · have d1 : decide ((0 : Int) < (row.length : Int)) = false := decide_eq_false (by omega)
            have d1' : decide (0 < row.length) = false := decide_eq_false (by omega)
            have d2 : decide ((0 : Int) < (F.length : Int)) = true := decide_eq_true (by omega)
            have d2' : decide (0 < F.length) = true := decide_eq_true (by omega)
            have HRE0 : Hid (rd .b row fd [] = ([row ++ [mkS fd]], 0)) := Lib.hid (by
              have e2 : fd.length = F.length := by rw [HF.out, nb_len]
              unfold rd
              simp only
              rw [if_neg]
              rintro ⟨h1, h2, h3⟩
              first | (cases h3; done) | omega)
            have hcv := run_bytes_str (P := Tryd.prog) (w := wr) 44 9 5 c6 Tryd.underlying44 Tryd.underlying5 Tryd.underlying9 HS.out.ob.reads.2.1
            rw [HF.out, strOf_nb, ← HF.out] at hcv
            have HS1 := Lib.hid HS.out.swap
            go_wp2_with (first
              | (at_builtin; refine wpList_append_elemN _ rfl _ _ 40 rfl 0 9 j0 _ 16 Tryd.underlying40 hj hy0 hy1 hy2 rfl _ row (by rfl) HS1.out.ol (mkS fd) (svl_ok _) _ rfl (by rfl) HL2.out (by omega) (Nat.zero_le _) ?_; intro vb wb hownb hgb hatb; have hb := HS1.out.grewOl hownb hgb hatb (Nat.le_succ _); obtain ⟨Ob, hOb⟩ : ∃ P, P = row ++ [mkS fd] := ⟨_, rfl⟩; rw [← hOb] at hownb hb; obtain ⟨Ab, cb, rfl, -, -, -, -⟩ := hownb.form; have Hb := Lib.hid hb; have HOb := Lib.hid hOb; have HS2 := Lib.hid Hb.out.bring2; clear hownb hgb hatb hb hOb)
              | (at_builtin; refine wpList_append_elemN _ rfl _ _ 22 rfl 0 40 k0 z0 24 Tryd.underlying22 hk0 hx0 hx1 hx2 hx3 _ X (by rfl) (St.flat HS2.out).ol ⟨Ab, cb, Ob⟩ (rqv_ok _) _ rfl (by rfl) HL3.out (by omega) (Nat.zero_le _) ?_; intro vr wr9 hownr hgr hatr; have hr := St.snocRws2 (q := ⟨Ab, cb, Ob⟩) HS2.out hownr hgr hatr; obtain ⟨Or, hOr⟩ : ∃ Z, Z = X ++ [(⟨Ab, cb, Ob⟩ : Rq)] := ⟨_, rfl⟩; rw [← hOr] at hownr hr; obtain ⟨Ar, cr, rfl, -, -, -, -⟩ := hownr.form; have Hr := Lib.hid hr; have HOr := Lib.hid hOr; clear hownr hgr hatr hr hOr))
            have HRE : Hid (csvR (lS s) = (rowsOf Or, 0)) := Lib.hid (by
              rw [HRD.out, HDE.out, HRE0.out, HOr.out, HOb.out]
              simp)
            have HSR : Hid (St Zf [RwsA (.slice Ar Or.length cr) Or] w wr9) := Lib.hid Hr.out.swap.drop
            clear hcv
            go_wp2
            go_ret2
            exact ⟨Ar, cr, Or, by rw [HRE.out]; rfl, by rw [HRE.out], HSR.out⟩
          · have d1 : decide ((0 : Int) < (row.length : Int)) = false := decide_eq_false (by omega)
            have d1' : decide (0 < row.length) = false := decide_eq_false (by omega)
            have d2 : decide ((0 : Int) < (F.length : Int)) = false := decide_eq_false (by omega)
            have d2' : decide (0 < F.length) = false := decide_eq_false (by omega)
            have HRE : Hid (csvR (lS s) = (rowsOf X, 0)) := Lib.hid (by
              have e1 : row = [] := List.length_eq_zero_iff.1 (by omega)
              have e2 : fd = [] := by
                have h := congrArg List.length HF.out
                rw [nb_len] at h
                exact List.length_eq_zero_iff.1 (by omega)
              rw [HRD.out, HDE.out, e1, e2]
              simp [rd])
            have HSR : Hid (St Zf [RwsA (.slice A4 X.length c4) X] w wr) := Lib.hid HS.out.drop.drop
            go_wp2
            go_ret2
            exact ⟨A4, c4, X, by rw [HRE.out]; rfl, by rw [HRE.out], HSR.out⟩
      | p =>
        simp only [Cst.n]
        by_cases hr0 : 0 < row.length
        · by_cases hf0 : 0 < F.length
          · have d1 : decide ((0 : Int) < (row.length : Int)) = true := decide_eq_true (by omega)
            have d1' : decide (0 < row.length) = true := decide_eq_true (by omega)
            have d2 : decide ((0 : Int) < (F.length : Int)) = true := decide_eq_true (by omega)
            have d2' : decide (0 < F.length) = true := decide_eq_true (by omega)
            have HRE0 : Hid (rd .p row fd [] = ([row ++ [mkS fd]], 0)) := Lib.hid (by
              have e2 : fd.length = F.length := by rw [HF.out, nb_len]
              unfold rd
              simp only
              rw [if_neg]
              rintro ⟨h1, h2, h3⟩
              first | (cases h3; done) | omega)
            have hcv := run_bytes_str (P := Tryd.prog) (w := wr) 44 9 5 c6 Tryd.underlying44 Tryd.underlying5 Tryd.underlying9 HS.out.ob.reads.2.1
            rw [HF.out, strOf_nb, ← HF.out] at hcv
            have HS1 := Lib.hid HS.out.swap
            go_wp2_with (first
              | (at_builtin; refine wpList_append_elemN _ rfl _ _ 40 rfl 0 9 j0 _ 16 Tryd.underlying40 hj hy0 hy1 hy2 rfl _ row (by rfl) HS1.out.ol (mkS fd) (svl_ok _) _ rfl (by rfl) HL2.out (by omega) (Nat.zero_le _) ?_; intro vb wb hownb hgb hatb; have hb := HS1.out.grewOl hownb hgb hatb (Nat.le_succ _); obtain ⟨Ob, hOb⟩ : ∃ P, P = row ++ [mkS fd] := ⟨_, rfl⟩; rw [← hOb] at hownb hb; obtain ⟨Ab, cb, rfl, -, -, -, -⟩ := hownb.form; have Hb := Lib.hid hb; have HOb := Lib.hid hOb; have HS2 := Lib.hid Hb.out.bring2; clear hownb hgb hatb hb hOb)
              | (at_builtin; refine wpList_append_elemN _ rfl _ _ 22 rfl 0 40 k0 z0 24 Tryd.underlying22 hk0 hx0 hx1 hx2 hx3 _ X (by rfl) (St.flat HS2.out).ol ⟨Ab, cb, Ob⟩ (rqv_ok _) _ rfl (by rfl) HL3.out (by omega) (Nat.zero_le _) ?_; intro vr wr9 hownr hgr hatr; have hr := St.snocRws2 (q := ⟨Ab, cb, Ob⟩) HS2.out hownr hgr hatr; obtain ⟨Or, hOr⟩ : ∃ Z, Z = X ++ [(⟨Ab, cb, Ob⟩ : Rq)] := ⟨_, rfl⟩; rw [← hOr] at hownr hr; obtain ⟨Ar, cr, rfl, -, -, -, -⟩ := hownr.form; have Hr := Lib.hid hr; have HOr := Lib.hid hOr; clear hownr hgr hatr hr hOr))
            have HRE : Hid (csvR (lS s) = (rowsOf Or, 0)) := Lib.hid (by
              rw [HRD.out, HDE.out, HRE0.out, HOr.out, HOb.out]
              simp)
            have HSR : Hid (St Zf [RwsA (.slice Ar Or.length cr) Or] w wr9) := Lib.hid Hr.out.swap.drop
            clear hcv
            go_wp2
            go_ret2
            exact ⟨Ar, cr, Or, by rw [HRE.out]; rfl, by rw [HRE.out], HSR.out⟩
          · have d1 : decide ((0 : Int) < (row.length : Int)) = true := decide_eq_true (by omega)
            have d1' : decide (0 < row.length) = true := decide_eq_true (by omega)
            have d2 : decide ((0 : Int) < (F.length : Int)) = false := decide_eq_false (by omega)
            have d2' : decide (0 < F.length) = false := decide_eq_false (by omega)
            have HRE0 : Hid (rd .p row fd [] = ([row ++ [mkS fd]], 0)) := Lib.hid (by
              have e2 : fd.length = F.length := by rw [HF.out, nb_len]
              unfold rd
              simp only
              rw [if_neg]
              rintro ⟨h1, h2, h3⟩
              first | (cases h3; done) | omega)
            have hcv := run_bytes_str (P := Tryd.prog) (w := wr) 44 9 5 c6 Tryd.underlying44 Tryd.underlying5 Tryd.underlying9 HS.out.ob.reads.2.1
            rw [HF.out, strOf_nb, ← HF.out] at hcv
            have HS1 := Lib.hid HS.out.swap
            go_wp2_with (first
              | (at_builtin; refine wpList_append_elemN _ rfl _ _ 40 rfl 0 9 j0 _ 16 Tryd.underlying40 hj hy0 hy1 hy2 rfl _ row (by rfl) HS1.out.ol (mkS fd) (svl_ok _) _ rfl (by rfl) HL2.out (by omega) (Nat.zero_le _) ?_; intro vb wb hownb hgb hatb; have hb := HS1.out.grewOl hownb hgb hatb (Nat.le_succ _); obtain ⟨Ob, hOb⟩ : ∃ P, P = row ++ [mkS fd] := ⟨_, rfl⟩; rw [← hOb] at hownb hb; obtain ⟨Ab, cb, rfl, -, -, -, -⟩ := hownb.form; have Hb := Lib.hid hb; have HOb := Lib.hid hOb; have HS2 := Lib.hid Hb.out.bring2; clear hownb hgb hatb hb hOb)
              | (at_builtin; refine wpList_append_elemN _ rfl _ _ 22 rfl 0 40 k0 z0 24 Tryd.underlying22 hk0 hx0 hx1 hx2 hx3 _ X (by rfl) (St.flat HS2.out).ol ⟨Ab, cb, Ob⟩ (rqv_ok _) _ rfl (by rfl) HL3.out (by omega) (Nat.zero_le _) ?_; intro vr wr9 hownr hgr hatr; have hr := St.snocRws2 (q := ⟨Ab, cb, Ob⟩) HS2.out hownr hgr hatr; obtain ⟨Or, hOr⟩ : ∃ Z, Z = X ++ [(⟨Ab, cb, Ob⟩ : Rq)] := ⟨_, rfl⟩; rw [← hOr] at hownr hr; obtain ⟨Ar, cr, rfl, -, -, -, -⟩ := hownr.form; have Hr := Lib.hid hr; have HOr := Lib.hid hOr; clear hownr hgr hatr hr hOr))
            have HRE : Hid (csvR (lS s) = (rowsOf Or, 0)) := Lib.hid (by
              rw [HRD.out, HDE.out, HRE0.out, HOr.out, HOb.out]
              simp)
            have HSR : Hid (St Zf [RwsA (.slice Ar Or.length cr) Or] w wr9) := Lib.hid Hr.out.swap.drop
            clear hcv
            go_wp2
            go_ret2
            exact ⟨Ar, cr, Or, by rw [HRE.out]; rfl, by rw [HRE.out], HSR.out⟩
        · by_cases hf0 : 0 < F.length
          · have d1 : decide ((0 : Int) < (row.length : Int)) = false := decide_eq_false (by omega)
            have d1' : decide (0 < row.length) = false := decide_eq_false (by omega)
            have d2 : decide ((0 : Int) < (F.length : Int)) = true := decide_eq_true (by omega)
            have d2' : decide (0 < F.length) = true := decide_eq_true (by omega)
            have HRE0 : Hid (rd .p row fd [] = ([row ++ [mkS fd]], 0)) := Lib.hid (by
              have e2 : fd.length = F.length := by rw [HF.out, nb_len]
              unfold rd
              simp only
              rw [if_neg]
              rintro ⟨h1, h2, h3⟩
              first | (cases h3; done) | omega)
            have hcv := run_bytes_str (P := Tryd.prog) (w := wr) 44 9 5 c6 Tryd.underlying44 Tryd.underlying5 Tryd.underlying9 HS.out.ob.reads.2.1
            rw [HF.out, strOf_nb, ← HF.out] at hcv
            have HS1 := Lib.hid HS.out.swap
            go_wp2_with (first
              | (at_builtin; refine wpList_append_elemN _ rfl _ _ 40 rfl 0 9 j0 _ 16 Tryd.underlying40 hj hy0 hy1 hy2 rfl _ row (by rfl) HS1.out.ol (mkS fd) (svl_ok _) _ rfl (by rfl) HL2.out (by omega) (Nat.zero_le _) ?_; intro vb wb hownb hgb hatb; have hb := HS1.out.grewOl hownb hgb hatb (Nat.le_succ _); obtain ⟨Ob, hOb⟩ : ∃ P, P = row ++ [mkS fd] := ⟨_, rfl⟩; rw [← hOb] at hownb hb; obtain ⟨Ab, cb, rfl, -, -, -, -⟩ := hownb.form; have Hb := Lib.hid hb; have HOb := Lib.hid hOb; have HS2 := Lib.hid Hb.out.bring2; clear hownb hgb hatb hb hOb)
              | (at_builtin; refine wpList_append_elemN _ rfl _ _ 22 rfl 0 40 k0 z0 24 Tryd.underlying22 hk0 hx0 hx1 hx2 hx3 _ X (by rfl) (St.flat HS2.out).ol ⟨Ab, cb, Ob⟩ (rqv_ok _) _ rfl (by rfl) HL3.out (by omega) (Nat.zero_le _) ?_; intro vr wr9 hownr hgr hatr; have hr := St.snocRws2 (q := ⟨Ab, cb, Ob⟩) HS2.out hownr hgr hatr; obtain ⟨Or, hOr⟩ : ∃ Z, Z = X ++ [(⟨Ab, cb, Ob⟩ : Rq)] := ⟨_, rfl⟩; rw [← hOr] at hownr hr; obtain ⟨Ar, cr, rfl, -, -, -, -⟩ := hownr.form; have Hr := Lib.hid hr; have HOr := Lib.hid hOr; clear hownr hgr hatr hr hOr))
            have HRE : Hid (csvR (lS s) = (rowsOf Or, 0)) := Lib.hid (by
              rw [HRD.out, HDE.out, HRE0.out, HOr.out, HOb.out]
              simp)
            have HSR : Hid (St Zf [RwsA (.slice Ar Or.length cr) Or] w wr9) := Lib.hid Hr.out.swap.drop
            clear hcv
            go_wp2
            go_ret2
            exact ⟨Ar, cr, Or, by rw [HRE.out]; rfl, by rw [HRE.out], HSR.out⟩
          · have d1 : decide ((0 : Int) < (row.length : Int)) = false := decide_eq_false (by omega)
            have d1' : decide (0 < row.length) = false := decide_eq_false (by omega)
            have d2 : decide ((0 : Int) < (F.length : Int)) = false := decide_eq_false (by omega)
            have d2' : decide (0 < F.length) = false := decide_eq_false (by omega)
            have HRE0 : Hid (rd .p row fd [] = ([row ++ [mkS fd]], 0)) := Lib.hid (by
              have e2 : fd.length = F.length := by rw [HF.out, nb_len]
              unfold rd
              simp only
              rw [if_neg]
              rintro ⟨h1, h2, h3⟩
              first | (cases h3; done) | omega)
            have hcv := run_bytes_str (P := Tryd.prog) (w := wr) 44 9 5 c6 Tryd.underlying44 Tryd.underlying5 Tryd.underlying9 HS.out.ob.reads.2.1
            rw [HF.out, strOf_nb, ← HF.out] at hcv
            have HS1 := Lib.hid HS.out.swap
            go_wp2_with (first
              | (at_builtin; refine wpList_append_elemN _ rfl _ _ 40 rfl 0 9 j0 _ 16 Tryd.underlying40 hj hy0 hy1 hy2 rfl _ row (by rfl) HS1.out.ol (mkS fd) (svl_ok _) _ rfl (by rfl) HL2.out (by omega) (Nat.zero_le _) ?_; intro vb wb hownb hgb hatb; have hb := HS1.out.grewOl hownb hgb hatb (Nat.le_succ _); obtain ⟨Ob, hOb⟩ : ∃ P, P = row ++ [mkS fd] := ⟨_, rfl⟩; rw [← hOb] at hownb hb; obtain ⟨Ab, cb, rfl, -, -, -, -⟩ := hownb.form; have Hb := Lib.hid hb; have HOb := Lib.hid hOb; have HS2 := Lib.hid Hb.out.bring2; clear hownb hgb hatb hb hOb)
              | (at_builtin; refine wpList_append_elemN _ rfl _ _ 22 rfl 0 40 k0 z0 24 Tryd.underlying22 hk0 hx0 hx1 hx2 hx3 _ X (by rfl) (St.flat HS2.out).ol ⟨Ab, cb, Ob⟩ (rqv_ok _) _ rfl (by rfl) HL3.out (by omega) (Nat.zero_le _) ?_; intro vr wr9 hownr hgr hatr; have hr := St.snocRws2 (q := ⟨Ab, cb, Ob⟩) HS2.out hownr hgr hatr; obtain ⟨Or, hOr⟩ : ∃ Z, Z = X ++ [(⟨Ab, cb, Ob⟩ : Rq)] := ⟨_, rfl⟩; rw [← hOr] at hownr hr; obtain ⟨Ar, cr, rfl, -, -, -, -⟩ := hownr.form; have Hr := Lib.hid hr; have HOr := Lib.hid hOr; clear hownr hgr hatr hr hOr))
            have HRE : Hid (csvR (lS s) = (rowsOf Or, 0)) := Lib.hid (by
              rw [HRD.out, HDE.out, HRE0.out, HOr.out, HOb.out]
              simp)
            have HSR : Hid (St Zf [RwsA (.slice Ar Or.length cr) Or] w wr9) := Lib.hid Hr.out.swap.drop
            clear hcv
            go_wp2
            go_ret2
            exact ⟨Ar, cr, Or, by rw [HRE.out]; rfl, by rw [HRE.out], HSR.out⟩
      | q =>
        simp only [Cst.n]
        have HRE : Hid (csvR (lS s) = (rowsOf X, 210)) := Lib.hid (by
          rw [HRD.out, HDE.out]
          simp [rd])
        have HSR : Hid (St Zf [RwsA (.slice A4 X.length c4) X] w wr) := Lib.hid HS.out.drop.drop
        go_wp2
        go_ret2
        exact ⟨A4, c4, X, by rw [HRE.out]; rfl, by rw [HRE.out], HSR.out⟩
      | c =>
        simp only [Cst.n]
        by_cases hr0 : 0 < row.length
        · by_cases hf0 : 0 < F.length
          · have d1 : decide ((0 : Int) < (row.length : Int)) = true := decide_eq_true (by omega)
            have d1' : decide (0 < row.length) = true := decide_eq_true (by omega)
            have d2 : decide ((0 : Int) < (F.length : Int)) = true := decide_eq_true (by omega)
            have d2' : decide (0 < F.length) = true := decide_eq_true (by omega)
            have HRE0 : Hid (rd .c row fd [] = ([row ++ [mkS fd]], 0)) := Lib.hid (by
              have e2 : fd.length = F.length := by rw [HF.out, nb_len]
              unfold rd
              simp only
              rw [if_neg]
              rintro ⟨h1, h2, h3⟩
              first | (cases h3; done) | omega)
            have hcv := run_bytes_str (P := Tryd.prog) (w := wr) 44 9 5 c6 Tryd.underlying44 Tryd.underlying5 Tryd.underlying9 HS.out.ob.reads.2.1
            rw [HF.out, strOf_nb, ← HF.out] at hcv
            have HS1 := Lib.hid HS.out.swap
            go_wp2_with (first
              | (at_builtin; refine wpList_append_elemN _ rfl _ _ 40 rfl 0 9 j0 _ 16 Tryd.underlying40 hj hy0 hy1 hy2 rfl _ row (by rfl) HS1.out.ol (mkS fd) (svl_ok _) _ rfl (by rfl) HL2.out (by omega) (Nat.zero_le _) ?_; intro vb wb hownb hgb hatb; have hb := HS1.out.grewOl hownb hgb hatb (Nat.le_succ _); obtain ⟨Ob, hOb⟩ : ∃ P, P = row ++ [mkS fd] := ⟨_, rfl⟩; rw [← hOb] at hownb hb; obtain ⟨Ab, cb, rfl, -, -, -, -⟩ := hownb.form; have Hb := Lib.hid hb; have HOb := Lib.hid hOb; have HS2 := Lib.hid Hb.out.bring2; clear hownb hgb hatb hb hOb)
              | (at_builtin; refine wpList_append_elemN _ rfl _ _ 22 rfl 0 40 k0 z0 24 Tryd.underlying22 hk0 hx0 hx1 hx2 hx3 _ X (by rfl) (St.flat HS2.out).ol ⟨Ab, cb, Ob⟩ (rqv_ok _) _ rfl (by rfl) HL3.out (by omega) (Nat.zero_le _) ?_; intro vr wr9 hownr hgr hatr; have hr := St.snocRws2 (q := ⟨Ab, cb, Ob⟩) HS2.out hownr hgr hatr; obtain ⟨Or, hOr⟩ : ∃ Z, Z = X ++ [(⟨Ab, cb, Ob⟩ : Rq)] := ⟨_, rfl⟩; rw [← hOr] at hownr hr; obtain ⟨Ar, cr, rfl, -, -, -, -⟩ := hownr.form; have Hr := Lib.hid hr; have HOr := Lib.hid hOr; clear hownr hgr hatr hr hOr))
            have HRE : Hid (csvR (lS s) = (rowsOf Or, 0)) := Lib.hid (by
              rw [HRD.out, HDE.out, HRE0.out, HOr.out, HOb.out]
              simp)
            have HSR : Hid (St Zf [RwsA (.slice Ar Or.length cr) Or] w wr9) := Lib.hid Hr.out.swap.drop
            clear hcv
            go_wp2
            go_ret2
            exact ⟨Ar, cr, Or, by rw [HRE.out]; rfl, by rw [HRE.out], HSR.out⟩
          · have d1 : decide ((0 : Int) < (row.length : Int)) = true := decide_eq_true (by omega)
            have d1' : decide (0 < row.length) = true := decide_eq_true (by omega)
            have d2 : decide ((0 : Int) < (F.length : Int)) = false := decide_eq_false (by omega)
            have d2' : decide (0 < F.length) = false := decide_eq_false (by omega)
            have HRE0 : Hid (rd .c row fd [] = ([row ++ [mkS fd]], 0)) := Lib.hid (by
              have e2 : fd.length = F.length := by rw [HF.out, nb_len]
              unfold rd
              simp only
              rw [if_neg]
              rintro ⟨h1, h2, h3⟩
              first | (cases h3; done) | omega)
            have hcv := run_bytes_str (P := Tryd.prog) (w := wr) 44 9 5 c6 Tryd.underlying44 Tryd.underlying5 Tryd.underlying9 HS.out.ob.reads.2.1
            rw [HF.out, strOf_nb, ← HF.out] at hcv
            have HS1 := Lib.hid HS.out.swap
            go_wp2_with (first
              | (at_builtin; refine wpList_append_elemN _ rfl _ _ 40 rfl 0 9 j0 _ 16 Tryd.underlying40 hj hy0 hy1 hy2 rfl _ row (by rfl) HS1.out.ol (mkS fd) (svl_ok _) _ rfl (by rfl) HL2.out (by omega) (Nat.zero_le _) ?_; intro vb wb hownb hgb hatb; have hb := HS1.out.grewOl hownb hgb hatb (Nat.le_succ _); obtain ⟨Ob, hOb⟩ : ∃ P, P = row ++ [mkS fd] := ⟨_, rfl⟩; rw [← hOb] at hownb hb; obtain ⟨Ab, cb, rfl, -, -, -, -⟩ := hownb.form; have Hb := Lib.hid hb; have HOb := Lib.hid hOb; have HS2 := Lib.hid Hb.out.bring2; clear hownb hgb hatb hb hOb)
              | (at_builtin; refine wpList_append_elemN _ rfl _ _ 22 rfl 0 40 k0 z0 24 Tryd.underlying22 hk0 hx0 hx1 hx2 hx3 _ X (by rfl) (St.flat HS2.out).ol ⟨Ab, cb, Ob⟩ (rqv_ok _) _ rfl (by rfl) HL3.out (by omega) (Nat.zero_le _) ?_; intro vr wr9 hownr hgr hatr; have hr := St.snocRws2 (q := ⟨Ab, cb, Ob⟩) HS2.out hownr hgr hatr; obtain ⟨Or, hOr⟩ : ∃ Z, Z = X ++ [(⟨Ab, cb, Ob⟩ : Rq)] := ⟨_, rfl⟩; rw [← hOr] at hownr hr; obtain ⟨Ar, cr, rfl, -, -, -, -⟩ := hownr.form; have Hr := Lib.hid hr; have HOr := Lib.hid hOr; clear hownr hgr hatr hr hOr))
            have HRE : Hid (csvR (lS s) = (rowsOf Or, 0)) := Lib.hid (by
              rw [HRD.out, HDE.out, HRE0.out, HOr.out, HOb.out]
              simp)
            have HSR : Hid (St Zf [RwsA (.slice Ar Or.length cr) Or] w wr9) := Lib.hid Hr.out.swap.drop
            clear hcv
            go_wp2
            go_ret2
            exact ⟨Ar, cr, Or, by rw [HRE.out]; rfl, by rw [HRE.out], HSR.out⟩
        · by_cases hf0 : 0 < F.length
          · have d1 : decide ((0 : Int) < (row.length : Int)) = false := decide_eq_false (by omega)
            have d1' : decide (0 < row.length) = false := decide_eq_false (by omega)
            have d2 : decide ((0 : Int) < (F.length : Int)) = true := decide_eq_true (by omega)
            have d2' : decide (0 < F.length) = true := decide_eq_true (by omega)
            have HRE0 : Hid (rd .c row fd [] = ([row ++ [mkS fd]], 0)) := Lib.hid (by
              have e2 : fd.length = F.length := by rw [HF.out, nb_len]
              unfold rd
              simp only
              rw [if_neg]
              rintro ⟨h1, h2, h3⟩
              first | (cases h3; done) | omega)
            have hcv := run_bytes_str (P := Tryd.prog) (w := wr) 44 9 5 c6 Tryd.underlying44 Tryd.underlying5 Tryd.underlying9 HS.out.ob.reads.2.1
            rw [HF.out, strOf_nb, ← HF.out] at hcv
            have HS1 := Lib.hid HS.out.swap
            go_wp2_with (first
              | (at_builtin; refine wpList_append_elemN _ rfl _ _ 40 rfl 0 9 j0 _ 16 Tryd.underlying40 hj hy0 hy1 hy2 rfl _ row (by rfl) HS1.out.ol (mkS fd) (svl_ok _) _ rfl (by rfl) HL2.out (by omega) (Nat.zero_le _) ?_; intro vb wb hownb hgb hatb; have hb := HS1.out.grewOl hownb hgb hatb (Nat.le_succ _); obtain ⟨Ob, hOb⟩ : ∃ P, P = row ++ [mkS fd] := ⟨_, rfl⟩; rw [← hOb] at hownb hb; obtain ⟨Ab, cb, rfl, -, -, -, -⟩ := hownb.form; have Hb := Lib.hid hb; have HOb := Lib.hid hOb; have HS2 := Lib.hid Hb.out.bring2; clear hownb hgb hatb hb hOb)
              | (at_builtin; refine wpList_append_elemN _ rfl _ _ 22 rfl 0 40 k0 z0 24 Tryd.underlying22 hk0 hx0 hx1 hx2 hx3 _ X (by rfl) (St.flat HS2.out).ol ⟨Ab, cb, Ob⟩ (rqv_ok _) _ rfl (by rfl) HL3.out (by omega) (Nat.zero_le _) ?_; intro vr wr9 hownr hgr hatr; have hr := St.snocRws2 (q := ⟨Ab, cb, Ob⟩) HS2.out hownr hgr hatr; obtain ⟨Or, hOr⟩ : ∃ Z, Z = X ++ [(⟨Ab, cb, Ob⟩ : Rq)] := ⟨_, rfl⟩; rw [← hOr] at hownr hr; obtain ⟨Ar, cr, rfl, -, -, -, -⟩ := hownr.form; have Hr := Lib.hid hr; have HOr := Lib.hid hOr; clear hownr hgr hatr hr hOr))
            have HRE : Hid (csvR (lS s) = (rowsOf Or, 0)) := Lib.hid (by
              rw [HRD.out, HDE.out, HRE0.out, HOr.out, HOb.out]
              simp)
            have HSR : Hid (St Zf [RwsA (.slice Ar Or.length cr) Or] w wr9) := Lib.hid Hr.out.swap.drop
            clear hcv
            go_wp2
            go_ret2
            exact ⟨Ar, cr, Or, by rw [HRE.out]; rfl, by rw [HRE.out], HSR.out⟩
          · have d1 : decide ((0 : Int) < (row.length : Int)) = false := decide_eq_false (by omega)
            have d1' : decide (0 < row.length) = false := decide_eq_false (by omega)
            have d2 : decide ((0 : Int) < (F.length : Int)) = false := decide_eq_false (by omega)
            have d2' : decide (0 < F.length) = false := decide_eq_false (by omega)
            have HRE0 : Hid (rd .c row fd [] = ([row ++ [mkS fd]], 0)) := Lib.hid (by
              have e2 : fd.length = F.length := by rw [HF.out, nb_len]
              unfold rd
              simp only
              rw [if_neg]
              rintro ⟨h1, h2, h3⟩
              first | (cases h3; done) | omega)
            have hcv := run_bytes_str (P := Tryd.prog) (w := wr) 44 9 5 c6 Tryd.underlying44 Tryd.underlying5 Tryd.underlying9 HS.out.ob.reads.2.1
            rw [HF.out, strOf_nb, ← HF.out] at hcv
            have HS1 := Lib.hid HS.out.swap
            go_wp2_with (first
              | (at_builtin; refine wpList_append_elemN _ rfl _ _ 40 rfl 0 9 j0 _ 16 Tryd.underlying40 hj hy0 hy1 hy2 rfl _ row (by rfl) HS1.out.ol (mkS fd) (svl_ok _) _ rfl (by rfl) HL2.out (by omega) (Nat.zero_le _) ?_; intro vb wb hownb hgb hatb; have hb := HS1.out.grewOl hownb hgb hatb (Nat.le_succ _); obtain ⟨Ob, hOb⟩ : ∃ P, P = row ++ [mkS fd] := ⟨_, rfl⟩; rw [← hOb] at hownb hb; obtain ⟨Ab, cb, rfl, -, -, -, -⟩ := hownb.form; have Hb := Lib.hid hb; have HOb := Lib.hid hOb; have HS2 := Lib.hid Hb.out.bring2; clear hownb hgb hatb hb hOb)
              | (at_builtin; refine wpList_append_elemN _ rfl _ _ 22 rfl 0 40 k0 z0 24 Tryd.underlying22 hk0 hx0 hx1 hx2 hx3 _ X (by rfl) (St.flat HS2.out).ol ⟨Ab, cb, Ob⟩ (rqv_ok _) _ rfl (by rfl) HL3.out (by omega) (Nat.zero_le _) ?_; intro vr wr9 hownr hgr hatr; have hr := St.snocRws2 (q := ⟨Ab, cb, Ob⟩) HS2.out hownr hgr hatr; obtain ⟨Or, hOr⟩ : ∃ Z, Z = X ++ [(⟨Ab, cb, Ob⟩ : Rq)] := ⟨_, rfl⟩; rw [← hOr] at hownr hr; obtain ⟨Ar, cr, rfl, -, -, -, -⟩ := hownr.form; have Hr := Lib.hid hr; have HOr := Lib.hid hOr; clear hownr hgr hatr hr hOr))
            have HRE : Hid (csvR (lS s) = (rowsOf Or, 0)) := Lib.hid (by
              rw [HRD.out, HDE.out, HRE0.out, HOr.out, HOb.out]
              simp)
            have HSR : Hid (St Zf [RwsA (.slice Ar Or.length cr) Or] w wr9) := Lib.hid Hr.out.swap.drop
            clear hcv
            go_wp2
            go_ret2
            exact ⟨Ar, cr, Or, by rw [HRE.out]; rfl, by rw [HRE.out], HSR.out⟩
      | k =>
        simp only [Cst.n]
        have HRE : Hid (csvR (lS s) = (rowsOf X, 211)) := Lib.hid (by
          rw [HRD.out, HDE.out]
          simp [rd])
        have HSR : Hid (St Zf [RwsA (.slice A4 X.length c4) X] w wr) := Lib.hid HS.out.drop.drop
        go_wp2
        go_ret2
        exact ⟨A4, c4, X, by rw [HRE.out]; rfl, by rw [HRE.out], HSR.out⟩

/-- what the document's Parse answers -/
def RParseW (l : Bs) (w : World) (e : Ending) (w' : World) : Prop :=
  ∃ A c X, e = .returned (.tuple #[.slice A X.length c, .int .i64 (csvR l).2]) ∧ rowsOf X = (if (csvR l).2 = 0 then (csvR l).1 else []) ∧ St Zf [RwsA (.slice A X.length c) X] w w'
set_option maxHeartbeats 1000000 in
theorem RParse_any (s : ByteArray) (w : World) (hl : s.size ≤ 1073741824) :
    Calls Tryd.prog 16 #[.string s] w (RParseW (lS s) w) := by
  have HC := Lib.hid (Read_any s w hl)
  clear hl
  unfold ReadW at HC
  have HW : Hid (∀ e w', RParseW (lS s) w e w' ↔ ∃ A c X, e = .returned (.tuple #[.slice A X.length c, .int .i64 (csvR (lS s)).2]) ∧ rowsOf X = (if (csvR (lS s)).2 = 0 then (csvR (lS s)).1 else []) ∧ St Zf [RwsA (.slice A X.length c) X] w w') := Lib.hid fun e w' => Iff.rfl
  obtain ⟨E, hE⟩ : ∃ E, E = (csvR (lS s)).2 := ⟨_, rfl⟩
  rw [← hE] at HC
  simp only [← hE] at HW
  generalize (csvR (lS s)).1 = R at HC HW
  clear hE
  by_cases h0 : E = 0
  · subst h0
    go_enter Tryd.func16, Tryd.ntmps16
    go_wp2_with fail
    refine HC.out.mono ?_
    rintro e w1 ⟨A, c, X, rfl, hx, h1⟩
    have HF : Hid (RParseW (lS s) w (.returned (.tuple #[.slice A X.length c, .int .i64 0])) w1) := Lib.hid ((HW.out _ _).2 ⟨A, c, X, rfl, by simpa using hx, h1⟩)
    clear hx h1
    go_wp2
    go_ret2
    exact HF.out
  · have hb : (E != 0) = true := by rw [bne_iff_ne]; exact h0
    have HE := Lib.hid h0
    clear h0
    go_enter Tryd.func16, Tryd.ntmps16
    go_wp2_with fail
    refine HC.out.mono ?_
    rintro e w1 ⟨A, c, X, rfl, hx, h1⟩
    have HF : Hid (RParseW (lS s) w (.returned (.tuple #[.slice (some ⟨w1.heap.size, 0, none⟩) 0 0, .int .i64 E])) (w1.alloc (.cells #[] 40))) := Lib.hid ((HW.out _ _).2 ⟨_, 0, [], rfl, by rw [if_neg HE.out]; rfl, St.pack (l' := [_, _]) ((h1.drop.nilSep).newNil Rq.v 40 rfl)⟩)
    clear hx h1
    go_wp2
    go_ret2
    exact HF.out
end Go.Proofs.YtmdljfpkbfhbdaaDoor
