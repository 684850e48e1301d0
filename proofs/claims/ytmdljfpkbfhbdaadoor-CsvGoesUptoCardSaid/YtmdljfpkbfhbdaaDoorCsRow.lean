/- csv: the reader: field, separator, row. -/
import Derived.Test.YtmdljfpkbfhbdaaDoorCsQuo
import Derived.Test.YtmdljfpkbfhbdaaDoorApList
namespace Go.Proofs.YtmdljfpkbfhbdaaDoor
open Go.RowKit
set_option linter.unusedVariables false

theorem str_info : (Tryd.prog.info? 9).map (fun i => (i.zero, i.size, i.bytes)) = some (some (.string ⟨#[]⟩), 1, 16) := by kernel_rfl
/-- what field answers -/
def FldW (S : Fp) (lst : List Ass) (w0 : World) (g : Nat) (l : Bs) (e : Ending) (w' : World) : Prop :=
  match fld l with
  | none => e = .returned (.tuple #[.string (mkS []), .int .i64 210]) ∧ ∃ l', St S (RdA g l' :: lst) w0 w'
  | some x => e = .returned (.tuple #[.string (mkS x.1), .int .i64 0]) ∧ St S (RdA g x.2 :: lst) w0 w'
set_option maxHeartbeats 1000000 in
theorem field_any {S : Fp} {lst : List Ass} [Stable (Sep lst)] {w0 w : World} (g : Nat) (l : Bs) (h : St S (RdA g l :: lst) w0 w) (hl : l.length ≤ 1073741824) :
    Calls Tryd.prog 26 #[.pointer (some ⟨g, 0, none⟩)] w (FldW S lst w0 g l) := by
  have HC := Lib.hid (skip_any g l ⟨#[34]⟩ h)
  have e34 : lS ⟨#[34]⟩ = [34] := rfl
  rw [e34, hasP34] at HC
  cases hd : hd34 l with
  | true =>
    obtain ⟨r, rfl⟩ : ∃ r, l = 34 :: r := by
      cases l with
      | nil => exact absurd hd (by decide)
      | cons c r =>
        have : c = 34 := by simpa [hd34] using hd
        exact ⟨r, by rw [this]⟩
    have et : Lib.trimPrefix (34 :: r) [34] = r := by simp [Lib.trimPrefix, Lib.hasPrefix, List.isPrefixOf]
    rw [et, hd] at HC
    have HQ : Hid (∀ w1, St S (RdA g r :: lst) w0 w1 → Calls Tryd.prog 32 #[.pointer (some ⟨g, 0, none⟩)] w1 (QuoW S lst w0 g r)) := Lib.hid fun w1 h1 => quoted_any g r h1 (by simp at hl; omega)
    have HF : Hid (∀ e w', QuoW S lst w0 g r e w' → (∃ a b, e = .returned (.tuple #[a, b])) ∧ FldW S lst w0 g (34 :: r) e w') := Lib.hid fun e w' hq => by
      unfold QuoW at hq
      unfold FldW
      have ef : fld (34 :: r) = quo r := by simp [fld]
      rw [ef]
      cases hr : quo r with
      | none =>
        rw [hr] at hq
        exact ⟨⟨_, _, hq.1⟩, hq.1, r, hq.2⟩
      | some x =>
        rw [hr] at hq
        exact ⟨⟨_, _, hq.1⟩, hq.1, hq.2⟩
    clear hd et e34 h
    go_enter Tryd.func26, Tryd.ntmps26
    go_wp2_with fail
    refine HC.out.mono ?_
    rintro e w1 ⟨rfl, h1⟩
    have HQ1 := Lib.hid (HQ.out w1 h1)
    clear h1
    go_wp2_with fail
    refine HQ1.out.mono ?_
    rintro e w2 h2
    obtain ⟨⟨a, b, rfl⟩, h3⟩ := HF.out e w2 h2
    have H3 := Lib.hid h3
    clear h2 h3
    go_wp2
    go_ret2
    exact H3.out
  | false =>
    have hp : Lib.hasPrefix l [34] = false := by rw [hasP34, hd]
    have et : Lib.trimPrefix l [34] = l := by unfold Lib.trimPrefix; rw [hp]; rfl
    rw [et, hd] at HC
    have ef : fld l = some (l.takeWhile nsp, l.dropWhile nsp) := by
      cases l with
      | nil => rfl
      | cons c r =>
        have hc : c ≠ 34 := by
          intro e
          subst e
          simp [hd34] at hd
        simp [fld, hc]
    have HF : Hid (∀ w', St S (RdA g (l.dropWhile nsp) :: lst) w0 w' → FldW S lst w0 g l (.returned (.tuple #[.string (mkS (l.takeWhile nsp)), .int .i64 0])) w') := Lib.hid fun w' h => by
      unfold FldW
      rw [ef]
      exact ⟨rfl, h⟩
    have HQ : Hid (∀ w1, St S (RdA g l :: lst) w0 w1 → Calls Tryd.prog 33 #[.pointer (some ⟨g, 0, none⟩)] w1 fun e w' => e = .returned (.string (mkS (l.takeWhile nsp))) ∧ St S (RdA g (l.dropWhile nsp) :: lst) w0 w') := Lib.hid fun w1 h1 => plain_any g l h1 hl
    clear hd et e34 h hp ef
    go_enter Tryd.func26, Tryd.ntmps26
    go_wp2_with fail
    refine HC.out.mono ?_
    rintro e w1 ⟨rfl, h1⟩
    have HQ1 := Lib.hid (HQ.out w1 h1)
    clear h1
    go_wp2_with fail
    refine HQ1.out.mono ?_
    rintro e w2 ⟨rfl, h2⟩
    have H3 := Lib.hid (HF.out w2 h2)
    clear h2
    go_wp2
    go_ret2
    exact H3.out

/-- what separator answers -/
def SepW (S : Fp) (lst : List Ass) (w0 : World) (g : Nat) (l : Bs) (e : Ending) (w' : World) : Prop :=
  e = .returned (.tuple #[.bool (sep l).more, .int .i64 (sep l).e]) ∧ St S (RdA g (sep l).rest :: lst) w0 w'
def hd44 (l : Bs) : Bool := l.head? == some 44
theorem hasP44 (l : Bs) : Lib.hasPrefix l [44] = hd44 l := by
  unfold Lib.hasPrefix hd44
  cases l with
  | nil => rfl
  | cons c r =>
    by_cases h : c = 44
    · subst h; simp [List.isPrefixOf]
    · have h' : (44 == c) = false := by rw [beq_eq_false_iff_ne]; exact fun e => h e.symm
      simp [List.isPrefixOf, h', h]
theorem mkS_ne {c : UInt8} {r : Bs} : ((mkS (c :: r)).toList == []) = false := by
  rw [beq_eq_false_iff_ne]
  intro h
  have h1 := congrArg List.length h
  simp [mkS] at h1
set_option maxHeartbeats 1000000 in
theorem separator_any {S : Fp} {lst : List Ass} [Stable (Sep lst)] {w0 w : World} (g : Nat) (l : Bs) (h : St S (RdA g l :: lst) w0 w) (hl : l.length ≤ 1073741824) :
    Calls Tryd.prog 27 #[.pointer (some ⟨g, 0, none⟩)] w (SepW S lst w0 g l) := by
  obtain ⟨c0, f0, g0⟩ := rd_cell h
  cases l with
  | nil =>
    have HF : Hid (SepW S lst w0 g [] (.returned (.tuple #[.bool false, .int .i64 0])) w) := Lib.hid ⟨rfl, h⟩
    have c0' : w.cell? ⟨g, 0, none⟩ = some (.string ⟨#[]⟩) := c0
    clear h c0
    go_enter Tryd.func27, Tryd.ntmps27
    go_wp2
    go_ret2
    exact HF.out
  | cons c r =>
    have hne := @mkS_ne c r
    have HC := Lib.hid (skip_any g (c :: r) ⟨#[44]⟩ h)
    have e44 : lS ⟨#[44]⟩ = [44] := rfl
    rw [e44, hasP44] at HC
    by_cases h44 : c = 44
    · subst h44
      have et : Lib.trimPrefix (44 :: r) [44] = r := by simp [Lib.trimPrefix, Lib.hasPrefix, List.isPrefixOf]
      have eh : hd44 (44 :: r) = true := by simp [hd44]
      rw [et, eh] at HC
      have HF : Hid (∀ w', St S (RdA g r :: lst) w0 w' → SepW S lst w0 g (44 :: r) (.returned (.tuple #[.bool true, .int .i64 0])) w') := Lib.hid fun w' h => by
        unfold SepW sep
        exact ⟨by simp, by simpa using h⟩
      generalize mkS (44 :: r) = s at c0 hne
      clear h e44 et eh
      go_enter Tryd.func27, Tryd.ntmps27
      go_wp2_with fail
      refine HC.out.mono ?_
      rintro e w1 ⟨rfl, h1⟩
      have HF1 := Lib.hid (HF.out w1 h1)
      clear h1
      go_wp2
      go_ret2
      exact HF1.out
    · have hp : Lib.hasPrefix (c :: r) [44] = false := by rw [hasP44]; simp [hd44, h44]
      have et : Lib.trimPrefix (c :: r) [44] = c :: r := by unfold Lib.trimPrefix; rw [hp]; rfl
      have eh : hd44 (c :: r) = false := by simp [hd44, h44]
      rw [et, eh] at HC
      have e13 : lS ⟨#[13, 10]⟩ = [13, 10] := rfl
      by_cases h2 : Lib.hasPrefix (c :: r) [13, 10] = true
      · obtain ⟨r', hr'⟩ : ∃ r', c :: r = 13 :: 10 :: r' := by
          unfold Lib.hasPrefix at h2
          obtain ⟨t, ht⟩ := List.isPrefixOf_iff_prefix.1 h2
          exact ⟨t, ht.symm⟩
        have et2 : Lib.trimPrefix (c :: r) [13, 10] = r' := by unfold Lib.trimPrefix; rw [h2, hr']; rfl
        have HC2 : Hid (∀ w1, St S (RdA g (c :: r) :: lst) w0 w1 → Calls Tryd.prog 31 #[.pointer (some ⟨g, 0, none⟩), .string ⟨#[13, 10]⟩] w1 fun e w' => e = .returned (.bool true) ∧ St S (RdA g r' :: lst) w0 w') := Lib.hid fun w1 h1 => by
          have := skip_any g (c :: r) ⟨#[13, 10]⟩ h1
          rw [e13, h2, et2] at this
          exact this
        have HF : Hid (∀ w', St S (RdA g r' :: lst) w0 w' → SepW S lst w0 g (c :: r) (.returned (.tuple #[.bool false, .int .i64 0])) w') := Lib.hid fun w' h => by
          rw [hr']
          unfold SepW sep
          exact ⟨by simp, by simpa using h⟩
        generalize mkS (c :: r) = s at c0 hne
        clear h e44 et eh hp h2 hr' et2 e13 h44
        go_enter Tryd.func27, Tryd.ntmps27
        go_wp2_with fail
        refine HC.out.mono ?_
        rintro e w1 ⟨rfl, h1⟩
        have HC3 := Lib.hid (HC2.out w1 h1)
        clear h1
        go_wp2_with fail
        refine HC3.out.mono ?_
        rintro e w2 ⟨rfl, h2⟩
        have HF1 := Lib.hid (HF.out w2 h2)
        clear h2
        go_wp2
        go_ret2
        exact HF1.out
      · have h2' : Lib.hasPrefix (c :: r) [13, 10] = false := by simpa using h2
        have et2 : Lib.trimPrefix (c :: r) [13, 10] = c :: r := by unfold Lib.trimPrefix; rw [h2']; rfl
        have HC2 : Hid (∀ w1, St S (RdA g (c :: r) :: lst) w0 w1 → Calls Tryd.prog 31 #[.pointer (some ⟨g, 0, none⟩), .string ⟨#[13, 10]⟩] w1 fun e w' => e = .returned (.bool false) ∧ St S (RdA g (c :: r) :: lst) w0 w') := Lib.hid fun w1 h1 => by
          have := skip_any g (c :: r) ⟨#[13, 10]⟩ h1
          rw [e13, h2', et2] at this
          exact this
        have hnocr : ∀ r', ¬ c :: r = 13 :: 10 :: r' := by
          intro r' e
          rw [e] at h2
          exact h2 (by simp [Lib.hasPrefix, List.isPrefixOf])
        have HSEP : Hid (sep (c :: r) = ⟨false, if spc2 c = true then 211 else 210, c :: r⟩) := Lib.hid (by
          by_cases h13 : c = 13
          · subst h13
            have : spc2 13 = true := by decide
            rw [this, if_pos rfl]
            unfold sep
            cases r with
            | nil => simp
            | cons d r' =>
              have hd : d ≠ 10 := fun e => hnocr r' (by rw [e])
              simp [hd]
          · by_cases h10 : c = 10
            · subst h10
              have : spc2 10 = true := by decide
              rw [this, if_pos rfl]
              simp [sep]
            · have : spc2 c = false := by simp [spc2, h13, h10]
              rw [this, if_neg (by decide)]
              simp [sep, h44, h13, h10])
        have hsz : (mkS (c :: r)).size = r.length + 1 := by rw [mkS_size]; rfl
        have HT : Hid ((mkS (c :: r)).extract 0 1 = mkS [c]) := Lib.hid (mkS_take (c :: r) 1)
        have HCA : Hid (∀ w, Calls Tryd.prog 29 #[.string ((mkS (c :: r)).extract 0 1), .string ⟨#[13, 10]⟩] w fun e w' => e = .returned (.bool (spc2 c)) ∧ Below w.heap.size w w') := Lib.hid fun w => by
          rw [HT.out]
          refine (ContainsAny2 (mkS [c]) w (by rw [mkS_size]; simp)).mono ?_
          rintro e w' ⟨rfl, hb⟩
          exact ⟨by rw [lS_mk]; simp, hb⟩
        have HF : Hid (∀ w' v, St S (RdA g (c :: r) :: lst) w0 w' → v = (if spc2 c = true then (211 : Int) else 210) → SepW S lst w0 g (c :: r) (.returned (.tuple #[.bool false, .int .i64 v])) w') := Lib.hid fun w' v h hv => by
          unfold SepW
          rw [HSEP.out, hv]
          exact ⟨rfl, h⟩
        have HCE : Hid (∀ w1, St S (RdA g (c :: r) :: lst) w0 w1 → w1.cell? ⟨g, 0, none⟩ = some (.string (mkS (c :: r))) ∧ g < w1.heap.size) := Lib.hid fun w1 h1 => ⟨(rd_cell h1).1, (rd_cell h1).2.2⟩
        have hsz2 : 1 ≤ (mkS (c :: r)).size := by omega
        generalize mkS (c :: r) = s at c0 hne hsz hsz2 HCA HCE
        clear h e44 et eh hp h2 hnocr et2 e13 h2' HSEP h44 HT
        cases hs2 : spc2 c with
        | true =>
          rw [hs2] at HCA
          have hv : (211 : Int) = if spc2 c = true then (211 : Int) else 210 := by rw [hs2]; rfl
          have HV := Lib.hid hv
          clear hs2 hv
          go_enter Tryd.func27, Tryd.ntmps27
          go_wp2_with fail
          refine HC.out.mono ?_
          rintro e w1 ⟨rfl, h1⟩
          have HC3 := Lib.hid (HC2.out w1 h1)
          clear h1
          go_wp2_with fail
          refine HC3.out.mono ?_
          rintro e w2 ⟨rfl, h2⟩
          have H2 := Lib.hid h2
          obtain ⟨c2, g2⟩ := HCE.out w2 h2
          clear h2
          go_wp2_with fail
          refine (HCA.out _).mono ?_
          rintro e w3 ⟨rfl, hb3⟩
          have HF1 := Lib.hid (HF.out w3 _ (H2.out.below hb3) HV.out)
          clear hb3
          go_wp2
          go_ret2
          exact HF1.out
        | false =>
          rw [hs2] at HCA
          have hv : (210 : Int) = if spc2 c = true then (211 : Int) else 210 := by rw [hs2]; rfl
          have HV := Lib.hid hv
          clear hs2 hv
          go_enter Tryd.func27, Tryd.ntmps27
          go_wp2_with fail
          refine HC.out.mono ?_
          rintro e w1 ⟨rfl, h1⟩
          have HC3 := Lib.hid (HC2.out w1 h1)
          clear h1
          go_wp2_with fail
          refine HC3.out.mono ?_
          rintro e w2 ⟨rfl, h2⟩
          have H2 := Lib.hid h2
          obtain ⟨c2, g2⟩ := HCE.out w2 h2
          clear h2
          go_wp2_with fail
          refine (HCA.out _).mono ?_
          rintro e w3 ⟨rfl, hb3⟩
          have HF1 := Lib.hid (HF.out w3 _ (H2.out.below hb3) HV.out)
          clear hb3
          go_wp2
          go_ret2
          exact HF1.out
end Go.Proofs.YtmdljfpkbfhbdaaDoor
