/- csv: the reader: quoted. -/
import Derived.Test.YtmdljfpkbfhbdaaDoorCsRead
namespace Go.Proofs.YtmdljfpkbfhbdaaDoor
open Go.RowKit
set_option linter.unusedVariables false

/-- what quoted answers -/
def QuoW (S : Fp) (lst : List Ass) (w0 : World) (g : Nat) (l : Bs) (e : Ending) (w' : World) : Prop :=
  match quo l with
  | none => e = .returned (.tuple #[.string (mkS []), .int .i64 210]) ∧ St S (RdA g l :: lst) w0 w'
  | some x => e = .returned (.tuple #[.string (mkS x.1), .int .i64 0]) ∧ St S (RdA g x.2 :: lst) w0 w'
theorem mkS_at (l : Bs) (k : Nat) (h : k < l.length) (h' : k < (mkS l).size) : (mkS l)[k]'h' = l[k] := by
  have h1 := byte_at (mkS l) k h'
  have h2 : l[k]? = some l[k] := List.getElem?_eq_getElem h
  exact Option.some.inj (h1.symm.trans h2)
theorem drop_cons {l : Bs} {k : Nat} (h : k < l.length) : l.drop k = l[k] :: l.drop (k + 1) := List.drop_eq_getElem_cons h
def hd34 (l : Bs) : Bool := l.head? == some 34
theorem hasP34 (l : Bs) : Lib.hasPrefix l [34] = hd34 l := by
  unfold Lib.hasPrefix hd34
  cases l with
  | nil => rfl
  | cons c r =>
    by_cases h : c = 34
    · subst h; simp [List.isPrefixOf]
    · have h' : (34 == c) = false := by rw [beq_eq_false_iff_ne]; exact fun e => h e.symm
      simp [List.isPrefixOf, h', h]
set_option maxRecDepth 100000 in
set_option maxHeartbeats 1000000 in
theorem quoted_any {S : Fp} {lst : List Ass} [Stable (Sep lst)] {w0 w : World} (g : Nat) (l : Bs) (h : St S (RdA g l :: lst) w0 w) (hl : l.length ≤ 1073741824) :
    Calls Tryd.prog 32 #[.pointer (some ⟨g, 0, none⟩)] w (QuoW S lst w0 g l) := by
  obtain ⟨c0, f0, g0⟩ := rd_cell h
  have HS := Lib.hid h
  obtain ⟨N, hN⟩ : ∃ N, N = w.heap.size := ⟨_, rfl⟩
  have HNE := Lib.hid hN
  have hsz : (mkS l).size = l.length := mkS_size l
  obtain ⟨s, hs⟩ : ∃ s, s = mkS l := ⟨_, rfl⟩
  obtain ⟨n, hn⟩ : ∃ n, n = l.length := ⟨_, rfl⟩
  rw [← hs] at hsz c0
  rw [← hn] at hsz hl
  have HHS := Lib.hid hs
  have HHN := Lib.hid hn
  have HX : Hid (∀ k (hk : k < n) (h' : k < s.size), ∃ x, s[k]'h' = x ∧ l.drop k = x :: l.drop (k + 1)) := Lib.hid (by
    intro k hk h'
    subst hs
    rw [hn] at hk
    exact ⟨l[k], mkS_at l k hk h', drop_cons hk⟩)
  have HEX : Hid (∀ k, s.extract k n = mkS (l.drop k)) := Lib.hid (by
    intro k
    rw [hs, hn, ← mkS_size l]
    exact mkS_drop l k)
  have hbd := Bd.fresh w N hN.symm
  have H0 : Hid (∃ W, W = w.alloc (.cells #[.pointer none, .slice none 0 0] 46) ∧ Bd N N [] W ∧ Below N w W) := Lib.hid ⟨_, rfl, hbd, (Below.refl _ _).alloc (by omega) _⟩
  have FIN : Hid (∀ wr acc r, Bd N N acc wr → Below N w wr → Hid (quo l = some (acc, r)) → ∃ w2, w2 = wr.setCell ⟨g, 0, none⟩ (.string (mkS r)) ∧ Calls Tryd.prog 21 #[.pointer (some ⟨N, 0, none⟩)] w2 fun e w3 => e = .returned (.string (mkS acc)) ∧ QuoW S lst w0 g l (.returned (.tuple #[.string (mkS acc), .int .i64 0])) w3) := Lib.hid (by
    intro wr acc r hB hW hq
    refine ⟨_, rfl, ?_⟩
    have hB2 := hB.setLow (p := ⟨g, 0, none⟩) (by show g < N; omega) (.string (mkS r))
    refine (BString_any N N acc _ hB2).mono ?_
    rintro e w3 ⟨rfl, hb3⟩
    refine ⟨rfl, ?_⟩
    unfold QuoW
    rw [hq.out]
    refine ⟨rfl, ?_⟩
    have hO : Only (fun k => k = g) w w3 := by
      have h1 : Only (fun k => k = g) w wr := Only.of_below (by rw [← hN]; exact hW) _
      have h2 : Only (fun k => k = g) w (wr.setCell ⟨g, 0, none⟩ (.string (mkS r))) := h1.setCell (p := ⟨g, 0, none⟩) (.inl rfl) _
      exact h2.belowFrom hb3 (by omega)
    obtain ⟨F, ⟨hk, rfl⟩, k⟩ := HS.out.turn
    refine k _ _ ⟨_, ⟨?_, rfl⟩, hO, fun i hi => .inl hi⟩
    have hbl : Blk wr g 51 #[.string (mkS l)] := hk.below hW (by omega)
    have hb2 := hbl.set_ 0 (.string (mkS r))
    exact hb2.below hb3 (by omega))
  clear h hs hn hbd hN
  go_enter Tryd.func32, Tryd.ntmps32
  go_wp2
  rw [← HNE.out]
  go_loopw [5] (fun i wr => ∃ (k : Nat) (acc : Bs), k ≤ n ∧ i = .int .i64 k ∧ Hid (quo l = (quo (l.drop k)).map fun x => (acc ++ x.1, x.2)) ∧ Hid (Bd N N acc wr) ∧ Hid (Below N w wr) ∧ acc.length ≤ k) (fun i _ => n - (intOf i).toNat)
  case atStart =>
    obtain ⟨W, rfl, h1, h2⟩ := H0.out
    exact ⟨0, [], Nat.zero_le _, rfl, Lib.hid (by rw [List.drop_zero]; cases quo l <;> rfl), Lib.hid h1, Lib.hid h2, Nat.le_refl _⟩
  case round =>
    obtain ⟨k, acc, hk, rfl, HQ, HB, HW, hac⟩ := hrel
    clear H0
    have c1 : wr.cell? ⟨g, 0, none⟩ = some (.string s) := (HW.out.cell (p := ⟨g, 0, none⟩) (by show g < N; have := HNE.out; omega)).trans c0
    have f1 : wr.frozen? ⟨g, 0, none⟩ = false := (rd_cell (HS.out.below (by rw [← HNE.out]; exact HW.out))).2.1
    by_cases hlt : k < n
    · have hks : k < s.size := by omega
      obtain ⟨x, hx, hdr⟩ := HX.out k hlt hks
      have HDR := Lib.hid hdr
      clear hdr
      by_cases h34 : x = 34
      · subst h34
        have HP : Hid (∀ w, Calls Tryd.prog 38 #[.string (s.extract (k + 1) n), .string ⟨#[34]⟩] w fun e w' => e = .returned (.bool (hd34 (l.drop (k + 1)))) ∧ w = w') := Lib.hid fun w => by
          rw [HEX.out]
          refine (Tryd.strings_HasPrefix (mkS (l.drop (k + 1))) ⟨#[34]⟩ w).mono ?_
          rintro e w' ⟨rfl, hw⟩
          refine ⟨?_, hw.symm⟩
          congr 2
          exact hasP34 _
        have e34 : ((34 : UInt8).toNat : Int) = 34 := by decide
        cases hd : hd34 (l.drop (k + 1)) with
        | false =>
          rw [hd] at HP
          have HQ3 : Hid (quo l = some (acc, l.drop (k + 1))) := Lib.hid (by
            rw [HQ.out, HDR.out]
            generalize l.drop (k + 1) = d at hd
            cases d with
            | nil => simp [quo]
            | cons y d =>
              have hy : y ≠ 34 := by
                intro e
                subst e
                simp [hd34] at hd
              simp [quo, hy])
          obtain ⟨w2, hw2, hc⟩ := FIN.out wr acc _ HB.out HW.out HQ3
          rw [← HEX.out] at hw2
          rw [hw2] at hc
          have HC := Lib.hid hc
          clear hw2 hc hd
          go_wp2_with (go_at_call 38; refine (HP.out _).mono ?_; rintro e w' ⟨rfl, rfl⟩)
          refine HC.out.mono ?_
          rintro e w3 ⟨rfl, h3⟩
          have H3 := Lib.hid h3
          clear h3
          go_wp2
          go_ret2
          exact H3.out
        | true =>
          rw [hd] at HP
          have hk1 : k + 1 < n := by
            have h2 := HHN.out
            rcases Nat.lt_or_ge (k + 1) n with h | h
            · exact h
            · rw [List.drop_of_length_le (by omega)] at hd
              exact absurd hd (by decide)
          have hks1 : k + 1 < s.size := by omega
          obtain ⟨y, hy, hdr2⟩ := HX.out (k + 1) hk1 hks1
          have hy34 : y = 34 := by
            rw [hdr2] at hd
            simpa [hd34] using hd
          subst hy34
          have HQ3 : Hid (quo l = (quo (l.drop (k + 2))).map fun z => ((acc ++ [34]) ++ z.1, z.2)) := Lib.hid (by
            rw [HQ.out, HDR.out, hdr2]
            have e3 : ∀ r', quo (34 :: 34 :: r') = (quo r').map fun x => (34 :: x.1, x.2) := fun r' => by simp [quo]
            rw [e3]
            cases quo (l.drop (k + 2)) <;> simp)
          have HC := Lib.hid (WriteByte_any N N acc 34 wr HB.out (by omega))
          clear hd hdr2
          go_wp2_with (go_at_call 38; refine (HP.out _).mono ?_; rintro e w' ⟨rfl, rfl⟩)
          refine HC.out.mono ?_
          rintro e w1 ⟨rfl, h1, hb1⟩
          have H1 := Lib.hid h1
          have HB1 := Lib.hid (HW.out.trans hb1)
          clear h1 hb1
          go_wp2
          go_roundw
          case rel => exact ⟨k + 2, acc ++ [34], by omega, by go_num, HQ3, H1, HB1, by simp; omega⟩
          case measure => simp [intOf]; omega
      · have hne : ((x.toNat : Int) == 34) = false := by
          rw [beq_eq_false_iff_ne]
          intro e
          exact h34 (UInt8.toNat_inj.1 (by show x.toNat = 34; omega))
        have hne' : ((x.toNat : Int) == (((⟨#[34]⟩ : ByteArray)[0]'(by decide : 0 < 1)).toNat : Int)) = false := hne
        have HC := Lib.hid (WriteByte_any N N acc x wr HB.out (by omega))
        have HQ2 : Hid (quo l = (quo (l.drop (k + 1))).map fun y => ((acc ++ [x]) ++ y.1, y.2)) := Lib.hid (by
          rw [HQ.out, HDR.out, quo_ne h34]
          cases quo (l.drop (k + 1)) <;> simp)
        clear h34
        go_wp2_with fail
        refine HC.out.mono ?_
        rintro e w1 ⟨rfl, h1, hb1⟩
        have H1 := Lib.hid h1
        have HB1 := Lib.hid (HW.out.trans hb1)
        clear h1 hb1
        go_wp2
        go_roundw
        case rel => exact ⟨k + 1, acc ++ [x], by omega, by go_num, HQ2, H1, HB1, by simp; omega⟩
        case measure => simp [intOf]; omega
    · have HQ2 : Hid (quo l = none) := Lib.hid (by
        have h1 := HQ.out
        have h2 := HHN.out
        rw [List.drop_of_length_le (by omega)] at h1
        exact h1)
      have HST := Lib.hid (HS.out.below (by rw [← HNE.out]; exact HW.out))
      go_wp2
      go_ret2
      unfold QuoW
      rw [HQ2.out]
      exact ⟨rfl, HST.out⟩
end Go.Proofs.YtmdljfpkbfhbdaaDoor
