/- csv: the reader: row. -/
import Derived.Test.YtmdljfpkbfhbdaaDoorCsRow
namespace Go.Proofs.YtmdljfpkbfhbdaaDoor
open Go.RowKit
set_option linter.unusedVariables false

theorem rowP_none {acc : Rw} {l : Bs} (h : fld l = none) : rowP acc l = ([], 210, []) := by
  rw [rowP]
  split
  · rfl
  · rename_i x hf; rw [h] at hf; cases hf
theorem rowP_some {acc : Rw} {l : Bs} {x : Bs × Bs} (h : fld l = some x) : rowP acc l = if (sep x.2).e ≠ 0 then ([], (sep x.2).e, []) else if (sep x.2).more = true then rowP (acc ++ [mkS x.1]) (sep x.2).rest else (acc ++ [mkS x.1], 0, (sep x.2).rest) := by
  rw [rowP]
  split
  · rename_i hf; rw [h] at hf; cases hf
  · rename_i y hf
    obtain rfl : x = y := by rw [h] at hf; injection hf
    by_cases he : (sep x.2).e ≠ 0
    · rw [if_pos he, if_pos he]
    · rw [if_neg he, if_neg he]
      by_cases hm : (sep x.2).more = true
      · rw [dif_pos hm, if_pos hm]
      · rw [dif_neg hm, if_neg hm]
/-- what row answers -/
def RowW (S : Fp) (lst : List Ass) (w0 : World) (g : Nat) (l : Bs) (e : Ending) (w' : World) : Prop :=
  ∃ v l', e = .returned (.tuple #[v, .int .i64 (rowP [] l).2.1]) ∧ ((rowP [] l).2.1 = 0 → l' = (rowP [] l).2.2) ∧ St S (OlA svl 9 v (rowP [] l).1 :: RdA g l' :: lst) w0 w'
theorem RowW.bad {S : Fp} {lst : List Ass} {w0 w' : World} {g : Nat} {l l' : Bs} {E : Int} (he : rowP [] l = ([], E, [])) (h0 : E ≠ 0) (h : St S (RdA g l' :: lst) w0 w') : RowW S lst w0 g l (.returned (.tuple #[.slice none 0 0, .int .i64 E])) w' := by
  refine ⟨.slice none 0 0, l', ?_, ?_, ?_⟩
  · rw [he]
  · intro h
    rw [he] at h
    exact absurd h h0
  · rw [he]
    exact h.nilOl svl 9
theorem sep_len (l : Bs) : (sep l).rest.length ≤ l.length := by
  unfold sep
  split
  · simp
  · split
    · simp
    · split
      · split
        · split <;> simp
          omega
        · simp
      · split <;> simp
set_option maxRecDepth 100000 in
set_option maxHeartbeats 1000000 in
theorem row_any {S : Fp} {lst : List Ass} [Stable (Sep lst)] {w0 w : World} (g : Nat) (l : Bs) (h : St S (RdA g l :: lst) w0 w) (hl : l.length ≤ 1073741824) :
    Calls Tryd.prog 23 #[.pointer (some ⟨g, 0, none⟩)] w (RowW S lst w0 g l) := by
  have H := Lib.hid h
  have HL := Lib.hid hl
  clear h hl
  obtain ⟨j0, hj, hy0, hy1, hy2⟩ := info_parts str_info
  go_enter Tryd.func23, Tryd.ntmps23
  go_wp2
  go_loopg [4, 5] (l.length + 2) (fun gk v b wx => ∃ (acc : Rw) (l' : Bs) (A : Option Addr) (c : Nat) (more : Bool), v = .slice A acc.length c ∧ b = .bool more ∧ Hid (St S (OlA svl 9 (.slice A acc.length c) acc :: RdA g l' :: lst) w0 wx) ∧
    Hid (if more = true then rowP acc l' = rowP [] l ∧ acc.length + l'.length ≤ l.length ∧ l'.length + 2 ≤ gk else rowP [] l = (acc, 0, l')))
  case atStart => exact ⟨[], l, none, 0, true, rfl, rfl, Lib.hid (H.out.nilOl svl 9), Lib.hid (by rw [if_pos rfl]; exact ⟨rfl, by simp, Nat.le_refl _⟩)⟩
  case round =>
    obtain ⟨acc, l', A, c, more, rfl, rfl, HS, HR⟩ := hrel
    clear H
    cases more with
    | false =>
      have hr := HR.out
      rw [if_neg (by decide)] at hr
      have HF : Hid (RowW S lst w0 g l (.returned (.tuple #[.slice A acc.length c, .int .i64 0])) wr) := Lib.hid ⟨_, l', by rw [hr], fun _ => by rw [hr], by rw [hr]; exact HS.out⟩
      clear hr
      go_wp2
      go_ret2
      exact HF.out
    | true =>
      obtain ⟨hr1, hr2, hr3⟩ := HR.out
      obtain ⟨gk, rfl⟩ : ∃ gk', gk = gk' + 1 := ⟨gk - 1, by omega⟩
      have HC := Lib.hid (field_any g l' HS.out.swap (by have := HL.out; omega))
      cases hf : fld l' with
      | none =>
        have he : rowP [] l = ([], 210, []) := by rw [← hr1, rowP_none hf]
        have HC2 : Hid (Calls Tryd.prog 26 #[.pointer (some ⟨g, 0, none⟩)] wr fun e w' => e = .returned (.tuple #[.string (mkS []), .int .i64 210]) ∧ RowW S lst w0 g l (.returned (.tuple #[.slice none 0 0, .int .i64 210])) w') := Lib.hid (HC.out.mono fun e w' h => by
          unfold FldW at h
          rw [hf] at h
          obtain ⟨h1, l2, h2⟩ := h
          exact ⟨h1, RowW.bad he (by decide) h2.swap.drop⟩)
        clear hr1 hr2 hr3 hf he HC
        go_wp2_with fail
        refine HC2.out.mono ?_
        rintro e w1 ⟨rfl, h1⟩
        have H1 := Lib.hid h1
        clear h1
        go_wp2
        go_ret2
        exact H1.out
      | some x =>
        have he := rowP_some (acc := acc) hf
        have hfl := fld_len (f := x.1) (r := x.2) hf
        have HC2 : Hid (Calls Tryd.prog 26 #[.pointer (some ⟨g, 0, none⟩)] wr fun e w' => e = .returned (.tuple #[.string (mkS x.1), .int .i64 0]) ∧ St S (OlA svl 9 (.slice A acc.length c) acc :: RdA g x.2 :: lst) w0 w') := Lib.hid (HC.out.mono fun e w' h => by
          unfold FldW at h
          rw [hf] at h
          exact ⟨h.1, h.2.swap⟩)
        obtain ⟨F, hF⟩ : ∃ F, F = mkS x.1 := ⟨_, rfl⟩
        rw [← hF] at HC2 he
        obtain ⟨l2, hl2⟩ : ∃ l2, l2 = x.2 := ⟨_, rfl⟩
        rw [← hl2] at HC2 he hfl
        have hby : (acc.length + 1) * 16 ≤ 140737488355328 := by have := HL.out; omega
        have HSP : Hid (∀ w1 P, St S (P :: RdA g l2 :: lst) w0 w1 → [Stable P] → Calls Tryd.prog 27 #[.pointer (some ⟨g, 0, none⟩)] w1 fun e w' => e = .returned (.tuple #[.bool (sep l2).more, .int .i64 (sep l2).e]) ∧ St S (P :: RdA g (sep l2).rest :: lst) w0 w') := Lib.hid (by
          intro w1 P h1 hst
          refine (separator_any g l2 h1.swap (by have := HL.out; omega)).mono ?_
          rintro e w' ⟨h1, h2⟩
          exact ⟨h1, h2.swap⟩)
        have HE := Lib.hid he
        have HR1 := Lib.hid hr1
        have HLN : Hid (acc.length + l2.length ≤ l.length ∧ l2.length + 1 ≤ gk) := Lib.hid ⟨by omega, by omega⟩
        clear hr1 hr2 hr3 hf he HC hF hl2 hfl
        go_wp2_with fail
        refine HC2.out.mono ?_
        rintro e w1 ⟨rfl, h1⟩
        have H1 := Lib.hid h1
        clear h1
        go_wp2_with (at_builtin; refine wpList_append_elemN _ rfl _ _ 40 rfl 0 9 j0 _ 16 Tryd.underlying40 hj hy0 hy1 hy2 rfl _ acc (by rfl) H1.out.ol F (svl_ok F) _ rfl (by rfl) hby (by omega) (Nat.zero_le _) ?_; intro v7 w7 hown7 hg7 hat7; have h7 := H1.out.grewOl hown7 hg7 hat7 (by simp); obtain ⟨O, hO⟩ : ∃ O, O = acc ++ [F] := ⟨_, rfl⟩; rw [← hO] at hown7 h7; obtain ⟨A7, c7, rfl, -, -, -, -⟩ := hown7.form; have H7 := Lib.hid h7; have HO := Lib.hid hO; clear hown7 hg7 hat7 h7 hO)
        have HCS := Lib.hid (HSP.out _ _ H7.out)
        cases hE : decide ((sep l2).e = 0) with
        | false =>
          have hE' : (sep l2).e ≠ 0 := of_decide_eq_false hE
          have hEb : ((sep l2).e != 0) = true := by rw [bne_iff_ne]; exact hE'
          have he : rowP [] l = ([], (sep l2).e, []) := by rw [← HR1.out, HE.out, if_pos hE']
          have HFN : Hid (∀ w', St S (OlA svl 9 (.slice A7 O.length c7) O :: RdA g (sep l2).rest :: lst) w0 w' → RowW S lst w0 g l (.returned (.tuple #[.slice none 0 0, .int .i64 (sep l2).e])) w') := Lib.hid fun w' h => RowW.bad he hE' h.drop
          generalize (sep l2).e = E at *
          generalize (sep l2).more = M at *
          clear hE hE' he
          go_wp2_with fail
          refine HCS.out.mono ?_
          rintro e w2 ⟨rfl, h2⟩
          have HF := Lib.hid (HFN.out w2 h2)
          clear h2
          go_wp2
          go_ret2
          exact HF.out
        | true =>
          have hE' : (sep l2).e = 0 := of_decide_eq_true hE
          have hrl := sep_len l2
          have HN : Hid (if (sep l2).more = true then rowP O (sep l2).rest = rowP [] l ∧ O.length + (sep l2).rest.length ≤ l.length ∧ (sep l2).rest.length + 2 ≤ gk else rowP [] l = (O, 0, (sep l2).rest)) := Lib.hid (by
            have he : rowP [] l = _ := HR1.out.symm.trans HE.out
            rw [if_neg (by simp [hE']), ← HO.out] at he
            by_cases hm : (sep l2).more = true
            · rw [if_pos hm] at he ⊢
              have h1 := (sep_more hm).2
              have h2 := HLN.out
              exact ⟨he.symm, by rw [HO.out, List.length_append]; simp; omega, by omega⟩
            · rw [if_neg hm] at he ⊢
              exact he)
          rw [hE'] at HCS
          generalize (sep l2).more = M at *
          clear hE hE' hrl
          go_wp2_with fail
          refine HCS.out.mono ?_
          rintro e w2 ⟨rfl, h2⟩
          have H2 := Lib.hid h2
          clear h2
          go_wp2
          go_roundg gk
          case measure => omega
          case rel => exact ⟨O, (sep l2).rest, A7, c7, M, rfl, rfl, H2, HN⟩
end Go.Proofs.YtmdljfpkbfhbdaaDoor
