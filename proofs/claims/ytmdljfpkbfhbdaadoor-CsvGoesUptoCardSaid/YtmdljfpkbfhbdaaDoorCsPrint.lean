/- csv: formatField, writeRow, Print. -/
import Derived.Test.YtmdljfpkbfhbdaaDoorCsIdx
import Derived.Test.YtmdljfpkbfhbdaaDoorRws
import Derived.Lib.SplitLaws
import Derived.Lib.CountLaws
namespace Go.Proofs.YtmdljfpkbfhbdaaDoor
open Go.RowKit
set_option linter.unusedVariables false

/-- the library's own number holds something -/
def MW (w : World) : Prop := ∃ m, w.cell? ⟨0, 0, none⟩ = some (.int .i64 m)
theorem MW.below {w w' : World} {B : Nat} (h : MW w) (hb : Below B w w') (hB : 0 < B) : MW w' := by
  obtain ⟨m, h⟩ := h
  exact ⟨m, (hb.cell (p := ⟨0, 0, none⟩) hB).trans h⟩
theorem MW.pos {w : World} (h : MW w) : 0 < w.heap.size := by
  obtain ⟨m, h⟩ := h
  have := World.block_lt_of_cell? _ _ h
  exact this
theorem dbl_replace : ∀ s : Bs, Lib.replaceK [34] [34, 34] (s.count 34) s = dbl s
  | [] => rfl
  | c :: r => by
    have ih := dbl_replace r
    by_cases hc : c = 34
    · subst hc
      rw [List.count_cons_self, Lib.replaceK_hit _ _ _ _ 0 (by simp [Lib.index, List.isPrefixOf])]
      simp [dbl, ih]
    · rw [List.count_cons_of_ne hc, dbl, if_neg hc]
      cases hk : r.count 34 with
      | zero =>
        rw [hk] at ih
        rw [Lib.replaceK] at ih ⊢
        rw [← ih]
      | succ k =>
        obtain ⟨i, hi⟩ := Lib.index_of_count (s := r) (old := [34]) (by rw [Lib.count_one, hk]; omega)
        have hi2 : Lib.index (c :: r) [34] = ((i + 1 : Nat) : Int) := by
          rw [Lib.index_one] at hi ⊢
          rw [Lib.indexByte, hi]
          have e1 : (c == 34) = false := beq_eq_false_iff_ne.2 hc
          have e2 : ((i : Int) == -1) = false := by rw [beq_eq_false_iff_ne]; omega
          rw [e1, e2]
          simp
        rw [hk, Lib.replaceK_hit _ _ _ _ i hi] at ih
        rw [Lib.replaceK_hit _ _ _ _ (i + 1) hi2, ← ih]
        simp
theorem replaceAll_dbl (s : Bs) : Lib.replaceAll s [34] [34, 34] = dbl s := by
  have e : Lib.replaceAll s [34] [34, 34] = Lib.replaceK [34] [34, 34] (s.count 34) s := by
    unfold Lib.replaceAll Lib.replace Lib.replaceNum
    rw [if_neg (by decide), if_pos (.inl (by decide)), Lib.count_one]
  rw [e, dbl_replace]
theorem str_cat (a b : Bs) : mkS a ++ mkS b = mkS (a ++ b) := by
  apply ByteArray.ext
  simp [mkS]

set_option maxHeartbeats 1000000 in
theorem formatField_any (s : ByteArray) (w : World) (hM : MW w) (hs : s.size ≤ 1073741824) :
    Calls Tryd.prog 25 #[.string s] w fun e w' => e = .returned (.string (mkS (fmtF (lS s)))) ∧ Below w.heap.size w w' := by
  have HC := Lib.hid (ContainsAny_any s w (by omega))
  cases hb : (lS s).any spc with
  | false =>
    rw [hb] at HC
    have HF : Hid (mkS (fmtF (lS s)) = s) := Lib.hid (by unfold fmtF; rw [hb, if_neg (by decide), mk_lS])
    clear hb
    go_enter Tryd.func25, Tryd.ntmps25
    go_wp2_with (go_at_call 29; refine HC.out.mono ?_; rintro e w' ⟨rfl, hb⟩)
    go_ret
    refine ⟨?_, hb⟩
    rw [HF.out]
    rfl
  | true =>
    rw [hb] at HC
    have HF : Hid (mkS (fmtF (lS s)) = mkS [34] ++ mkS (dbl (lS s)) ++ mkS [34]) := Lib.hid (by unfold fmtF; rw [hb, if_pos rfl, str_cat, str_cat]; rfl)
    have HR : Hid (∀ w', Below w.heap.size w w' → Calls Tryd.prog 30 #[.string s, .string ⟨#[34]⟩, .string ⟨#[34, 34]⟩] w' fun e w2 => e = .returned (.string (mkS (dbl (lS s)))) ∧ Below w.heap.size w w2) := Lib.hid fun w' hb' => by
      obtain ⟨m, hm⟩ := hM.below hb' hM.pos
      have hcl : Lib.countB s ⟨#[34]⟩ ≤ s.size := by
        have h1 : Lib.countB s ⟨#[34]⟩ = (lS s).count 34 := Lib.count_one 34 s.data.toList
        rw [h1, ← lS_len]
        exact List.count_le_length
      refine (Tryd.strings_ReplaceAll s ⟨#[34]⟩ ⟨#[34, 34]⟩ m w' (by omega) hm (by decide) ?_).mono ?_
      · show s.size + Lib.countB s ⟨#[34]⟩ * 2 ≤ _
        omega
      · rintro e w2 ⟨rfl, h2⟩
        refine ⟨?_, hb'.trans (h2.mono hb'.size)⟩
        have e := replaceAll_dbl (lS s)
        unfold lS at e
        show Ending.returned (.string ⟨(Lib.replaceAll s.data.toList [34] [34, 34]).toArray⟩) = _
        rw [e]
        rfl
    obtain ⟨D, hD⟩ : ∃ D, D = mkS (dbl (lS s)) := ⟨_, rfl⟩
    rw [← hD] at HR HF
    have hDl : D.size ≤ 2147483648 := by
      have := dbl_len (lS s)
      rw [hD, mkS_size]
      rw [lS_len] at this
      omega
    clear hb hD
    go_enter Tryd.func25, Tryd.ntmps25
    go_wp2_with (first
      | (go_at_call 29; refine HC.out.mono ?_; rintro e w' ⟨rfl, hb⟩)
      | (go_at_call 30; refine (HR.out _ hb).mono ?_; rintro e w2 ⟨rfl, hb2⟩))
    go_ret
    refine ⟨?_, hb2⟩
    rw [HF.out]
    rfl

theorem field_le : ∀ {L : Rw} {f : ByteArray}, f ∈ L → 2 * f.size + 3 ≤ rowW L
  | [], f, h => by cases h
  | g :: r, f, h => by
    have e : rowW (g :: r) = 2 * g.size + 3 + rowW r := by simp [rowW]; omega
    rcases List.mem_cons.1 h with rfl | h
    · omega
    · have := field_le h
      omega
theorem rowW_take' (L : Rw) (k : Nat) : rowW (L.take k) ≤ rowW L := by
  have h : (L.map fun f => 2 * f.size + 3).sum = ((L.take k).map fun f => 2 * f.size + 3).sum + ((L.drop k).map fun f => 2 * f.size + 3).sum := by
    rw [← List.sum_append, ← List.map_append, List.take_append_drop]
  unfold rowW
  omega
theorem nthS_mem {L : Rw} {k : Nat} (h : k < L.length) : nthS L k ∈ L := by
  rw [nthS_lt h]
  exact List.getElem_mem h
set_option maxHeartbeats 1000000 in
theorem writeRow_any (Bb b : Nat) (l0 : Bs) (A : Option Addr) (c B : Nat) (L : Rw) (w : World) (hM : MW w) (h : Bd Bb b l0 w) (hr : RL svl w B A L) (hB : B ≤ Bb) (hB0 : 0 < Bb) (hl : L.length ≤ c) (hc : c ≤ maxLen)
    (hsz : rowW L ≤ 1073741824) (hl0 : l0.length ≤ 1073741824) :
    Calls Tryd.prog 20 #[.pointer (some ⟨b, 0, none⟩), .slice A L.length c] w fun e w' => (∃ v, e = .returned v) ∧ Bd Bb b (l0 ++ (rowT L ++ [13, 10])) w' ∧ Below Bb w w' := by
  have HM := Lib.hid hM
  have HR := Lib.hid hr
  have HZ := Lib.hid hsz
  have HL0 := Lib.hid hl0
  have H0 := Lib.hid h
  unfold maxLen at hc
  clear hM hr hsz hl0 h
  go_enter Tryd.func20, Tryd.ntmps20
  go_wp2
  go_loopw [8] (fun i wr => ∃ k : Nat, k ≤ L.length ∧ i = .int .i64 k ∧ Hid (Bd Bb b (l0 ++ rowT (L.take k)) wr) ∧ Hid (Below Bb w wr)) (fun i _ => L.length - (intOf i).toNat)
  case atStart => exact ⟨0, Nat.zero_le _, rfl, Lib.hid (by simpa [rowT] using H0.out), Lib.hid (Below.refl _ _)⟩
  case round =>
    obtain ⟨k, hk, rfl, HB, HW⟩ := hrel
    have hlen : Hid ((rowT (L.take k)).length ≤ 1073741824) := Lib.hid (by
      have h1 := rowT_len (L.take k)
      have h2 := rowW_take' L k
      have h3 := HZ.out
      omega)
    by_cases hlt : k < L.length
    · obtain ⟨g, off, rfl, hg, hcell⟩ := (HR.out.below' HW.out hB).allS (by omega)
      have hc1 := hcell k hlt
      clear hcell
      have HSN : Hid (rowT (L.take (k + 1)) = (if k = 0 then [] else rowT (L.take k) ++ [44]) ++ fmtF (lS (nthS L k))) := Lib.hid (by
        rw [takeS_succ hlt, rowT_snoc, List.length_take, Nat.min_eq_left (by omega)])
      have HFS : Hid (2 * (nthS L k).size + 3 ≤ 1073741824) := Lib.hid (Nat.le_trans (field_le (nthS_mem hlt)) HZ.out)
      generalize nthS L k = s at hc1 HSN HFS
      have HFF : Hid (∀ w', Below Bb w w' → Calls Tryd.prog 25 #[.string s] w' fun e w2 => e = .returned (.string (mkS (fmtF (lS s)))) ∧ Below w'.heap.size w' w2) := Lib.hid fun w' hb' => formatField_any s w' (HM.out.below hb' hB0) (by have := HFS.out; omega)
      have HFL : Hid ((mkS (fmtF (lS s))).size ≤ 1073741824) := Lib.hid (by
        have h1 := fmtF_len (lS s)
        have h2 := HFS.out
        rw [mkS_size]
        rw [lS_len] at h1
        omega)
      have HFE : Hid (lS (mkS (fmtF (lS s))) = fmtF (lS s)) := Lib.hid (lS_mk _)
      obtain ⟨F, hF⟩ : ∃ F, F = mkS (fmtF (lS s)) := ⟨_, rfl⟩
      rw [← hF] at HFL HFE
      simp only [← hF] at HFF
      clear hF
      have fin : ∀ w1 l1, Bd Bb b l1 w1 → Below Bb w w1 → l1.length ≤ 3221225472 → (l0 ++ rowT (L.take (k + 1)) = l1 ++ fmtF (lS s)) → ∀ w2, Below w1.heap.size w1 w2 → Calls Tryd.prog 24 #[.pointer (some ⟨b, 0, none⟩), .string F] w2 fun e w3 => e = .returned (.tuple #[.int .i64 F.size, .nilIface]) ∧ Bd Bb b (l0 ++ rowT (L.take (k + 1))) w3 ∧ Below Bb w w3 := by
        intro w1 l1 hd hb1 hl1 he w2 hb2
        have hd2 : Bd Bb b l1 w2 := hd.below hb2
        refine (WriteString_any Bb b l1 F w2 hd2 (by have := HFL.out; omega)).mono ?_
        rintro e w3 ⟨rfl, h3, hb3⟩
        rw [HFE.out, ← he] at h3
        exact ⟨rfl, h3, (hb1.trans (hb2.mono (Nat.le_of_lt (Nat.lt_of_le_of_lt hd.2 hd.lt)))).trans hb3⟩
      have FIN := Lib.hid fin
      clear fin
      by_cases h0 : k = 0
      · have hz1 : decide ((0 : Int) < (k : Int)) = false := by rw [h0]; rfl
        have hz2 : decide (0 < k) = false := by rw [h0]; rfl
        have HEQ : Hid (l0 ++ rowT (L.take (k + 1)) = l0 ++ rowT (L.take k) ++ fmtF (lS s)) := Lib.hid (by rw [HSN.out, if_pos h0, h0]; simp [rowT])
        clear h0
        go_wp2_with fail
        refine (HFF.out wr HW.out).mono ?_
        rintro e w1 ⟨rfl, hb1⟩
        have HC := Lib.hid (FIN.out wr _ HB.out HW.out (by have := hlen.out; have := HL0.out; simp; omega) HEQ.out w1 hb1)
        clear hb1
        go_wp2_with fail
        refine HC.out.mono ?_
        rintro e w2 ⟨rfl, h2, hb2⟩
        have H2 := Lib.hid h2
        have HB2 := Lib.hid hb2
        clear h2 hb2
        go_wp2
        go_roundw
        case rel => exact ⟨k + 1, by omega, by go_num, H2, HB2⟩
        case measure => simp [intOf]; omega
      · have hz1 : decide ((0 : Int) < (k : Int)) = true := decide_eq_true (by omega)
        have hz2 : decide (0 < k) = true := decide_eq_true (by omega)
        have HEQ : Hid (l0 ++ rowT (L.take (k + 1)) = l0 ++ rowT (L.take k) ++ [44] ++ fmtF (lS s)) := Lib.hid (by rw [HSN.out, if_neg h0]; simp)
        have h0' : 0 < k := by omega
        have h0'' : (0 : Int) < (k : Int) := by omega
        have HC0 := Lib.hid (WriteString_any Bb b _ ⟨#[44]⟩ wr HB.out (by have := hlen.out; have := HL0.out; show _ + 1 ≤ _; simp; omega))
        clear h0
        go_wp2_with fail
        refine HC0.out.mono ?_
        rintro e w0 ⟨rfl, h00, hb0⟩
        have H00 : Hid (Bd Bb b (l0 ++ rowT (L.take k) ++ [44]) w0) := Lib.hid h00
        have HB0 := Lib.hid (HW.out.trans hb0)
        clear h00 hb0
        go_wp2_with fail
        refine (HFF.out w0 HB0.out).mono ?_
        rintro e w1 ⟨rfl, hb1⟩
        have HC := Lib.hid (FIN.out w0 _ H00.out HB0.out (by have := hlen.out; have := HL0.out; simp; omega) HEQ.out w1 hb1)
        clear hb1
        go_wp2_with fail
        refine HC.out.mono ?_
        rintro e w2 ⟨rfl, h2, hb2⟩
        have H2 := Lib.hid h2
        have HB2 := Lib.hid hb2
        clear h2 hb2
        go_wp2
        go_roundw
        case rel => exact ⟨k + 1, by omega, by go_num, H2, HB2⟩
        case measure => simp [intOf]; omega
    · have HTK : Hid (L.take k = L) := Lib.hid (List.take_of_length_le (by omega))
      rw [HTK.out] at HB hlen
      have HC := Lib.hid (WriteString_any Bb b _ ⟨#[13, 10]⟩ wr HB.out (by have := hlen.out; have := HL0.out; show _ + 2 ≤ _; simp; omega))
      go_wp2_with fail
      refine HC.out.mono ?_
      rintro e w1 ⟨rfl, h1, hb1⟩
      have H1 : Hid (Bd Bb b (l0 ++ (rowT L ++ [13, 10])) w1) := Lib.hid (by
        have e : lS ⟨#[13, 10]⟩ = [13, 10] := rfl
        rw [e, List.append_assoc] at h1
        exact h1)
      have HB1 := Lib.hid (HW.out.trans hb1)
      clear h1 hb1
      go_wp2
      go_end0
      exact ⟨⟨_, rfl⟩, H1.out, HB1.out⟩
end Go.Proofs.YtmdljfpkbfhbdaaDoor
