/- cell: cutKind, readNumber, readNumbers. -/
import Derived.Test.YthfoffcfbfmajaaGreatDoorCeFmtA
import Derived.Test.YthfoffcfbfmajaaGreatDoorCsStr
import Derived.Test.YthfoffcfbfmajaaGreatDoorValCopy
import Derived.Test.YthfoffcfbfmajaaGreatDoorCsBuild
import Derived.Deep.QuietTactic
import Derived.BigQuiet
import Derived.IntWalk
import Derived.Deep.RegionHeld3
namespace Go.Proofs.YthfoffcfbfmajaaGreatDoor
open Go.RowKit
set_option linter.unusedVariables false

def Cut3 (l : Bs) (w : World) (e : Ending) (w' : World) : Prop := e = .returned (.tuple #[.int .i64 (cutK l).1, .string (mkS (cutK l).2.1), .int .i64 (cutK l).2.2]) ∧ Below w.heap.size w w'
theorem Cut3.hit {l r : Bs} {k : Int} {w w' : World} (h : cutK l = (k, r, 0)) (hb : Below w.heap.size w w') : Cut3 l w (.returned (.tuple #[.int .i64 k, .string (mkS r), .int .i64 0])) w' := by
  unfold Cut3
  rw [h]
  exact ⟨rfl, hb⟩
theorem Cut3.miss {l : Bs} {w w' : World} (h : cutK l = (0, [], 220)) (hb : Below w.heap.size w w') : Cut3 l w (.returned (.tuple #[.int .i64 0, .string ⟨#[]⟩, .int .i64 220])) w' := by
  unfold Cut3
  rw [h]
  exact ⟨rfl, hb⟩
set_option maxHeartbeats 1000000 in
theorem cutKind_any (s : ByteArray) (w : World) (hW : BegT w) : Calls Tryz.prog 21 #[.string s] w (Cut3 (lS s) w) := by
  have HW := Lib.hid hW
  have HC : Hid (∀ (k : Nat) (W : World), Calls Tryz.prog 34 #[.string s, .string (mkS (begB k))] W fun e w' => e = .returned (.tuple #[.string (mkS (Lib.trimPrefix (lS s) (begB k))), .bool (Lib.hasPrefix (lS s) (begB k))]) ∧ W = w') := Lib.hid fun k W =>
    (Tryz.strings_CutPrefix s (mkS (begB k)) W).mono fun e w' ⟨he, hw⟩ => ⟨he, hw.symm⟩
  have HH : Hid (∀ k : Nat, 1 ≤ k → k ≤ 8 → Lib.hasPrefix (lS s) (begB k) = true → Cut3 (lS s) w (.returned (.tuple #[.int .i64 k, .string (mkS (Lib.trimPrefix (lS s) (begB k))), .int .i64 0])) w) := Lib.hid fun k h1 h2 h => Cut3.hit (cutK_hit ⟨by omega, by omega⟩ h) (Below.refl _ _)
  have HM : Hid ((∀ j : Int, 1 ≤ j → j < 9 → Lib.hasPrefix (lS s) (begB j) = false) → Cut3 (lS s) w (.returned (.tuple #[.int .i64 0, .string ⟨#[]⟩, .int .i64 220])) w) := Lib.hid fun h => Cut3.miss (cutK_miss fun k h1 h2 => h k h1 (by omega)) (Below.refl _ _)
  clear hW
  go_enter Tryz.func21, Tryz.ntmps21
  go_wp2
  go_loopw [5] (fun i wr => ∃ k : Nat, 1 ≤ k ∧ k ≤ 9 ∧ i = .int .i64 k ∧ Hid (wr = w) ∧ Hid (∀ j : Int, 1 ≤ j → j < k → Lib.hasPrefix (lS s) (begB j) = false)) (fun i _ => 9 - (intOf i).toNat)
  case atStart => exact ⟨1, Nat.le_refl _, by decide, rfl, Lib.hid rfl, Lib.hid fun j h1 h2 => by omega⟩
  case round =>
    obtain ⟨k, hk1, hk9, rfl, HE, HN⟩ := hrel
    obtain rfl := HE.out
    clear HE
    by_cases hlt : k ≤ 8
    · have hcell := HW.out k hk1 hlt
      have hk : (0 : Int) ≤ (k : Int) ∧ (k : Int) < 9 := by omega
      have hkl : (k : Int) < 9 := hk.2
      have hle : decide ((k : Int) ≤ 8) = true := decide_eq_true (by omega)
      have HCk := Lib.hid (HC.out k wr)
      obtain ⟨b, hb⟩ : ∃ b, b = Lib.hasPrefix (lS s) (begB k) := ⟨_, rfl⟩
      have HHk := Lib.hid (HH.out k hk1 hlt)
      rw [← hb] at HCk HHk
      have HB := Lib.hid hb
      generalize mkS (Lib.trimPrefix (lS s) (begB k)) = T at HCk HHk
      generalize mkS (begB (k : Int)) = S1 at HCk hcell
      clear hb
      cases b with
      | true =>
        have HF := Lib.hid (HHk.out rfl)
        clear HHk hk
        go_wp2_with fail
        refine HCk.out.mono ?_
        rintro e w1 ⟨rfl, rfl⟩
        go_wp2
        go_ret3
        exact HF.out
      | false =>
        have HN2 : Hid (∀ j : Int, 1 ≤ j → j < (k + 1 : Nat) → Lib.hasPrefix (lS s) (begB j) = false) := Lib.hid fun j h1 h2 => by
          by_cases h : j = k
          · rw [h]; exact HB.out.symm
          · exact HN.out j h1 (by omega)
        clear HHk hk
        go_wp2_with fail
        refine HCk.out.mono ?_
        rintro e w1 ⟨rfl, rfl⟩
        go_wp2
        go_roundw
        case rel => exact ⟨k + 1, by omega, by omega, by go_num, Lib.hid trivial, HN2⟩
        case measure => simp [intOf]; omega
    · have hk : k = 9 := by omega
      subst hk
      have HF := Lib.hid (HM.out HN.out)
      go_wp2
      go_ret3
      exact HF.out
def RdN (p : Int × Int) (w : World) (e : Ending) (w' : World) : Prop := e = .returned (.tuple #[.int .i64 p.1, .int .i64 p.2]) ∧ Below w.heap.size w w'
theorem i64Of_wrap {v : Nat} (h : v < 18446744073709551616) : i64Of v = wrap64 (v : Int) := by
  unfold i64Of wrap64
  split <;> omega
theorem ReadF.lt {l : Bs} {v : Nat} {c : Int} (h : ReadF l v c) : v < 18446744073709551616 := by
  rcases h with ⟨-, h, -⟩ | ⟨-, h, -⟩
  · exact h.1
  · rw [h]; decide
set_option maxHeartbeats 1000000 in
theorem readNumber_any (k : Int) (s : ByteArray) (w : World) (hT : Tabs w) (hs : s.size ≤ 140737488355328) :
    Calls Tryz.prog 38 #[.int .i64 k, .string s] w (RdN (numR k (lS s)) w) := by
  unfold RdN
  by_cases h2 : k = 2
  · have HF := Lib.hid (ParseInt_any s w hT hs)
    have e : numR k (lS s) = parseI s.data.toList := by unfold numR; rw [if_pos h2]; rfl
    rw [e]
    generalize (parseI s.data.toList).1 = n at HF ⊢
    generalize (parseI s.data.toList).2 = c at HF ⊢
    subst h2
    clear hT hs e
    go_enter Tryz.func38, Tryz.ntmps38
    go_wp2_with fail
    refine HF.out.mono ?_
    rintro e w1 ⟨rfl, hb⟩
    go_wp2
    go_ret2
    exact ⟨rfl, hb⟩
  · by_cases h3 : k = 3
    · have HF : Hid (Calls Tryz.prog 58 #[.string s] w fun e w' => ∃ v c : Int, e = .returned (.tuple #[.int .u64 v, .int .i64 c]) ∧ Hid (numR k (lS s) = (wrap64 v, c)) ∧ Below w.heap.size w w') := Lib.hid ((ParseFloat_any s w hT hs).mono (by
        rintro e w' ⟨v, c, rfl, hr, hb⟩
        refine ⟨v, c, rfl, Lib.hid ?_, hb⟩
        unfold numR
        rw [if_neg h2, if_pos h3]
        have hr2 : ReadF (lS s) v c := hr
        rw [rdF_eq hr2, i64Of_wrap hr.lt]))
      subst h3
      clear hT hs h2
      go_enter Tryz.func38, Tryz.ntmps38
      go_wp2_with fail
      refine HF.out.mono ?_
      rintro e w1 ⟨v, c, rfl, HR, hb⟩
      go_wp2
      go_ret2
      refine ⟨?_, hb⟩
      rw [HR.out]
      rfl
    · have hk2 : (k == 2) = false := beq_eq_false_iff_ne.2 h2
      have hk3 : (k == 3) = false := beq_eq_false_iff_ne.2 h3
      have key : ∀ t : Bs, (s.toList == t) = decide (lS s = t) := fun t => by
        rw [Lib.toList_data]
        show (lS s == t) = decide (lS s = t)
        by_cases h : lS s = t <;> simp [h]
      have h4 := key [116, 114, 117, 101]
      have h5 := key [102, 97, 108, 115, 101]
      have HN : Hid (numR k (lS s) = if lS s = [116, 114, 117, 101] then (1, 0) else if lS s = [102, 97, 108, 115, 101] then (0, 0) else (0, 220)) := Lib.hid (by unfold numR; rw [if_neg h2, if_neg h3])
      rw [HN.out]
      clear HN key hT hs h2 h3
      by_cases ht : lS s = [116, 114, 117, 101]
      · rw [if_pos ht]
        rw [decide_eq_true ht] at h4
        clear h5 ht
        go_enter Tryz.func38, Tryz.ntmps38
        go_wp2
        go_ret2
        exact ⟨rfl, Below.refl _ _⟩
      · rw [if_neg ht]
        rw [decide_eq_false ht] at h4
        by_cases hf : lS s = [102, 97, 108, 115, 101]
        · rw [if_pos hf]
          rw [decide_eq_true hf] at h5
          clear ht hf
          go_enter Tryz.func38, Tryz.ntmps38
          go_wp2
          go_ret2
          exact ⟨rfl, Below.refl _ _⟩
        · rw [if_neg hf]
          rw [decide_eq_false hf] at h5
          clear ht hf
          go_enter Tryz.func38, Tryz.ntmps38
          go_wp2
          go_ret2
          exact ⟨rfl, Below.refl _ _⟩

/-! ### lists of numbers -/
/-- what readNumbers answers -/
def RdNs (f : Bs → Int × Int) (l : Bs) (w : World) (e : Ending) (w' : World) : Prop := ∃ A c, e = .returned (.tuple #[.slice A (readN f l).1.length c, .int .i64 (readN f l).2]) ∧ St Zf [OlA ivl 2 (.slice A (readN f l).1.length c) (readN f l).1] w w'
/-- L is read, l' is left -/
def NumsAt (f : Bs → Int × Int) (l : Bs) (L : List Int) (l' : Bs) : Prop := readN f l = (if (readN f l').2 = 0 then (L ++ (readN f l').1, 0) else ([], (readN f l').2)) ∧ l'.length + L.length ≤ l.length
theorem NumsAt.start (f : Bs → Int × Int) (l : Bs) : NumsAt f l [] l := by
  refine ⟨?_, by simp⟩
  by_cases h : (readN f l).2 = 0
  · rw [if_pos h]; exact Prod.ext (by simp) h
  · rw [if_neg h]
    refine Prod.ext ?_ rfl
    by_cases hl : l = []
    · rw [hl, readN_nil]
    · by_cases h59 : (59 : UInt8) ∈ l
      · obtain ⟨a, b, e, ha⟩ := split59 h59
        rw [e, readN_step _ _ _ ha] at h ⊢
        by_cases h1 : (f a).2 = 0
        · rw [if_pos h1] at h ⊢
          by_cases h2 : (readN f b).2 = 0
          · rw [if_pos h2] at h; exact absurd rfl h
          · rw [if_neg h2]
        · rw [if_neg h1]
      · rw [readN_bad f hl h59]
theorem NumsAt.next {f : Bs → Int × Int} {l a b : Bs} {L : List Int} (h : NumsAt f l L (a ++ 59 :: b)) (ha : (59 : UInt8) ∉ a) (h0 : (f a).2 = 0) : NumsAt f l (L ++ [(f a).1]) b := by
  obtain ⟨h1, h2⟩ := h
  rw [readN_step _ _ _ ha, if_pos h0] at h1
  refine ⟨?_, by simp at h2 ⊢; omega⟩
  rw [h1]
  by_cases hb : (readN f b).2 = 0
  · rw [if_pos hb, if_pos rfl, if_pos hb]
    simp
  · rw [if_neg hb, if_neg hb, if_neg hb]
theorem NumsAt.bad {f : Bs → Int × Int} {l a b : Bs} {L : List Int} (h : NumsAt f l L (a ++ 59 :: b)) (ha : (59 : UInt8) ∉ a) (h0 : (f a).2 ≠ 0) : readN f l = ([], (f a).2) := by
  rw [h.1, readN_step _ _ _ ha, if_neg h0, if_neg h0]
theorem NumsAt.lost {f : Bs → Int × Int} {l l' : Bs} {L : List Int} (h : NumsAt f l L l') (hl : l' ≠ []) (h59 : (59 : UInt8) ∉ l') : readN f l = ([], 220) := by
  rw [h.1, readN_bad f hl h59]
  exact if_neg (by decide)
theorem NumsAt.done {f : Bs → Int × Int} {l : Bs} {L : List Int} (h : NumsAt f l L []) : readN f l = (L, 0) := by
  rw [h.1, readN_nil, if_pos rfl]
  simp
theorem RdNs.err {f : Bs → Int × Int} {l : Bs} {E : Int} {w w' : World} {L0 : List Ass} (he : readN f l = ([], E)) (h : St Zf L0 w w') [Stable (Sep L0)] : RdNs f l w (.returned (.tuple #[.slice none 0 0, .int .i64 E])) w' := by
  unfold RdNs
  rw [he]
  refine ⟨none, 0, rfl, St.nilOl (l := []) ?_ ivl 2⟩
  obtain ⟨F, _, h2, _⟩ := h
  exact ⟨fun _ => False, rfl, h2, fun _ h => h.elim⟩
theorem SCut_any (l : Bs) (w : World) (hM : MW w) (hl : l.length ≤ 1073741824) : Calls Tryz.prog 56 #[.string (mkS l), .string ⟨#[59]⟩] w fun e w' =>
    e = .returned (.tuple #[.string (mkS (Lib.cut l [59]).1), .string (mkS (Lib.cut l [59]).2.1), .bool (Lib.cut l [59]).2.2]) ∧ Below w.heap.size w w' := by
  obtain ⟨m, hm⟩ := hM
  exact (Tryz.strings_Cut (mkS l) ⟨#[59]⟩ m w (by rw [mkS_size]; omega) hm).mono fun e w' h => by
    obtain ⟨h1, n, rfl⟩ := h
    exact ⟨h1, below_drewN (Below.refl _ _) n⟩
theorem mkS_ne (l : Bs) : ((mkS l).toList == []) = decide (l = []) := by
  rw [Lib.toList_data]
  show (l == []) = _
  by_cases h : l = [] <;> simp [h]
set_option maxHeartbeats 1000000 in
theorem readNumbers_any (k : Int) (l : Bs) (w : World) (hW : CeW w) (hl : l.length ≤ 1073741824) :
    Calls Tryz.prog 37 #[.int .i64 k, .string (mkS l)] w (RdNs (numR k) l w) := by
  have HW := Lib.hid hW
  have HL := Lib.hid hl
  obtain ⟨j0, hj, hy0, hy1, hy2⟩ := info_parts i64_info
  clear hW hl
  go_enter Tryz.func37, Tryz.ntmps37
  go_wp2
  go_loopg [6, 7] (l.length + 1) (fun gk v r wr => ∃ (L : List Int) (l' : Bs) (A : Option Addr) (c : Nat), v = .slice A L.length c ∧ r = .string (mkS l') ∧ Hid (St Zf [OlA ivl 2 (.slice A L.length c) L] w wr) ∧ Hid (NumsAt (numR k) l L l' ∧ l'.length + 1 ≤ gk))
  case atStart => exact ⟨[], l, none, 0, rfl, rfl, Lib.hid ((St.start Zf w).nilOl ivl 2), Lib.hid ⟨NumsAt.start _ _, Nat.le_refl _⟩⟩
  case round =>
    obtain ⟨L, l', A, c, rfl, rfl, HS, HN⟩ := hrel
    have hne := mkS_ne l'
    by_cases h0 : l' = []
    · subst h0
      rw [decide_eq_true rfl] at hne
      have HF : Hid (RdNs (numR k) l w (.returned (.tuple #[.slice A L.length c, .int .i64 0])) wr) := Lib.hid (by
        unfold RdNs
        rw [HN.out.1.done]
        exact ⟨A, c, rfl, HS.out⟩)
      go_wp2
      go_ret2
      exact HF.out
    · rw [decide_eq_false h0] at hne
      have hl1 := HN.out.1.2
      have HC := Lib.hid (SCut_any l' wr (HW.out.mw.below HS.out.bel HW.out.mw.pos) (by have := HL.out; omega))
      by_cases h59 : (59 : UInt8) ∈ l'
      · obtain ⟨a, b, rfl, ha⟩ := split59 h59
        rw [cut_hit ha] at HC
        have HR : Hid (∀ w1, Below wr.heap.size wr w1 → Calls Tryz.prog 38 #[.int .i64 k, .string (mkS a)] w1 (RdN (numR k a) w1)) := Lib.hid fun w1 hb =>
          readNumber_any k (mkS a) w1 ((HW.out.tabs.below HS.out.bel (Nat.le_refl _)).below hb (Nat.le_refl _)) (by rw [mkS_size]; rw [List.length_append] at hl1; have := HL.out; omega)
        unfold RdN at HR
        have HNX := Lib.hid fun h => HN.out.1.next ha h
        have HBD := Lib.hid fun h => HN.out.1.bad ha h
        have hby : (L.length + 1) * 8 ≤ 140737488355328 := by have := HL.out; omega
        have hgk : b.length + 1 + 1 ≤ gk := by have := HN.out.2; simp at this; omega
        obtain ⟨gk, rfl⟩ : ∃ gk', gk = gk' + 1 := ⟨gk - 1, by omega⟩
        have HG : Hid (b.length + 1 ≤ gk) := Lib.hid (by omega)
        generalize (numR k a).1 = n at HR HNX HBD
        generalize (numR k a).2 = E at HR HNX HBD
        generalize mkS a = S1 at HC HR
        clear ha h59 h0 hl1 hgk
        by_cases hE : E = 0
        · subst hE
          have HN2 := Lib.hid (HNX.out rfl)
          clear HNX HBD HN
          go_wp2_with fail
          refine HC.out.mono ?_
          rintro e w1 ⟨rfl, hb1⟩
          have HS1 := Lib.hid (HS.out.below hb1)
          have HR1 := Lib.hid (HR.out _ hb1)
          clear hb1
          go_wp2_with fail
          refine HR1.out.mono ?_
          rintro e w2 ⟨rfl, hb2⟩
          have HS2 := Lib.hid (HS1.out.below hb2)
          clear hb2
          go_wp2_with (at_builtin; refine wpList_append_elemN _ rfl _ _ 22 rfl 0 2 j0 _ 8 Tryz.underlying22 hj hy0 hy1 hy2 rfl _ L (by rfl) HS2.out.ol n (ivl_ok n) _ rfl (by rfl) hby (by omega) (Nat.zero_le _) ?_; intro v7 w7 hown7 hg7 hat7; have h7 := HS2.out.grewOl hown7 hg7 hat7 (by simp); obtain ⟨O, hO⟩ : ∃ O, O = L ++ [n] := ⟨_, rfl⟩; rw [← hO] at hown7 h7 HN2; obtain ⟨A7, c7, rfl, -, -, -, -⟩ := hown7.form; have H7 := Lib.hid h7; clear hown7 hg7 hat7 h7 hO)
          go_wp2
          go_roundg gk
          case measure => omega
          case rel => exact ⟨O, b, A7, c7, rfl, rfl, H7, Lib.hid ⟨HN2.out, HG.out⟩⟩
        · have HF : Hid (∀ w', Below wr.heap.size wr w' → RdNs (numR k) l w (.returned (.tuple #[.slice none 0 0, .int .i64 E])) w') := Lib.hid fun w' hb => RdNs.err (HBD.out hE) (HS.out.below hb)
          have hne2 : (E != 0) = true := by simpa using hE
          clear HNX HBD HN hE
          go_wp2_with fail
          refine HC.out.mono ?_
          rintro e w1 ⟨rfl, hb1⟩
          have HB1 := Lib.hid hb1
          have HR1 := Lib.hid (HR.out _ hb1)
          clear hb1
          go_wp2_with fail
          refine HR1.out.mono ?_
          rintro e w2 ⟨rfl, hb2⟩
          have HF2 := Lib.hid (HF.out _ (HB1.out.trans (hb2.mono HB1.out.size)))
          clear hb2
          go_wp2
          go_ret2
          exact HF2.out
      · rw [cut_miss h59] at HC
        have HF : Hid (∀ w', Below wr.heap.size wr w' → RdNs (numR k) l w (.returned (.tuple #[.slice none 0 0, .int .i64 220])) w') := Lib.hid fun w' hb => RdNs.err (HN.out.1.lost h0 h59) (HS.out.below hb)
        clear HN h0 h59 hl1
        go_wp2_with fail
        refine HC.out.mono ?_
        rintro e w1 ⟨rfl, hb1⟩
        have HF2 := Lib.hid (HF.out _ hb1)
        clear hb1
        go_wp2
        go_ret2
        exact HF2.out
end Go.Proofs.YthfoffcfbfmajaaGreatDoor

/- cell: cutText, readTexts. -/
namespace Go.Proofs.YthfoffcfbfmajaaGreatDoor
open Go.RowKit
set_option linter.unusedVariables false

/-- what cutText answers -/
def CutW (l : Bs) (w : World) (e : Ending) (w' : World) : Prop := (match cutT l with
  | none => e = .returned (.tuple #[.string (mkS []), .string (mkS []), .int .i64 220])
  | some p => e = .returned (.tuple #[.string (mkS p.1), .string (mkS p.2), .int .i64 0])) ∧ Below w.heap.size w w'
theorem CutW.no {l : Bs} {w w' : World} (h : cutT l = none) (hb : Below w.heap.size w w') : CutW l w (.returned (.tuple #[.string ⟨#[]⟩, .string ⟨#[]⟩, .int .i64 220])) w' := by
  unfold CutW
  rw [h]
  exact ⟨rfl, hb⟩
theorem CutW.yes {l t r : Bs} {w w' : World} (h : cutT l = some (t, r)) (hb : Below w.heap.size w w') : CutW l w (.returned (.tuple #[.string (mkS t), .string (mkS r), .int .i64 0])) w' := by
  unfold CutW
  rw [h]
  exact ⟨rfl, hb⟩
/-- t is cut, l' is left -/
def CutAt (l t l' : Bs) : Prop := cutT l = (cutT l').map fun p => (t ++ p.1, p.2)
theorem CutAt.start (l : Bs) : CutAt l [] l := by
  unfold CutAt
  cases cutT l <;> rfl
theorem CutAt.none {l t l' : Bs} (h : CutAt l t l') (h2 : cutT l' = none) : cutT l = none := by
  unfold CutAt at h
  rw [h, h2]
  rfl
theorem CutAt.done {l t r : Bs} (h : CutAt l t (59 :: r)) : cutT l = some (t, r) := by
  unfold CutAt at h
  rw [h, cutT_end]
  simp
theorem CutAt.plain {l t r : Bs} {c : UInt8} (h : CutAt l t (c :: r)) (h1 : c ≠ 92) (h2 : c ≠ 59) : CutAt l (t ++ [c]) r := by
  unfold CutAt at h ⊢
  rw [h, cutT_plain _ _ h1 h2]
  cases cutT r <;> simp
theorem CutAt.esc {l t r : Bs} {c : UInt8} (h : CutAt l t (92 :: c :: r)) (h1 : c = 92 ∨ c = 59) : CutAt l (t ++ [c]) r := by
  unfold CutAt at h ⊢
  rw [h, cutT_esc _ _ h1]
  cases cutT r <;> simp
theorem cutT_last : cutT [92] = none := by decide
theorem cutT_nil : cutT [] = none := rfl
theorem byte_ne {x c : UInt8} (h : x ≠ c) {n : Int} (hn : n = (c.toNat : Int) := by rfl) : ((x.toNat : Int) == n) = false := by
  rw [beq_eq_false_iff_ne, hn]
  intro e
  exact h (UInt8.toNat_inj.1 (by omega))
theorem byte_bne {x c : UInt8} (h : x ≠ c) {n : Int} (hn : n = (c.toNat : Int) := by rfl) : ((x.toNat : Int) != n) = true := by
  have := byte_ne h hn
  simp only [bne, this, Bool.not_false]
theorem i64_wrap_le {n : Int} (h0 : 0 ≤ n) (h1 : n ≤ 140737488355328) : IntKind.i64.wrap n = n := by
  rw [IntKind.wrap_i64]
  omega
set_option maxRecDepth 100000 in
set_option maxHeartbeats 1000000 in
theorem cutText_any (l : Bs) (w : World) (hl : l.length ≤ 1073741824) : Calls Tryz.prog 55 #[.string (mkS l)] w (CutW l w) := by
  obtain ⟨N, hN⟩ : ∃ N, N = w.heap.size := ⟨_, rfl⟩
  have HNE := Lib.hid hN
  have hsz : (mkS l).size = l.length := mkS_size l
  obtain ⟨s, hs⟩ : ∃ s, s = mkS l := ⟨_, rfl⟩
  obtain ⟨n, hn⟩ : ∃ n, n = l.length := ⟨_, rfl⟩
  rw [← hs] at hsz
  rw [← hn] at hsz hl
  have HHN := Lib.hid hn
  have HX : Hid (∀ k (hk : k < n) (h' : k < s.size), ∃ x, s[k]'h' = x ∧ l.drop k = x :: l.drop (k + 1)) := Lib.hid (by
    intro k hk h'
    subst hs
    rw [hn] at hk
    exact ⟨l[k], mkS_at l k hk h', drop_cons hk⟩)
  have HEX : Hid (∀ k, s.extract k n = mkS (l.drop k)) := Lib.hid (by
    intro k
    rw [hs, hn, ← mkS_size l]
    exact mkS_drop l k)
  have hbd := Bd.fresh w N hN.symm
  have H0 : Hid (∃ W, W = w.alloc (.cells #[.pointer none, .slice none 0 0] 79) ∧ Bd N N [] W ∧ Below N w W) := Lib.hid ⟨_, rfl, hbd, (Below.refl _ _).alloc (by omega) _⟩
  rw [← hs]
  clear hs hn hbd hN
  go_enter Tryz.func55, Tryz.ntmps55
  go_wp2
  rw [← HNE.out]
  go_loopw [6] (fun i wr => ∃ (k : Nat) (t : Bs), k ≤ n ∧ i = .int .i64 k ∧ Hid (CutAt l t (l.drop k)) ∧ Hid (Bd N N t wr) ∧ Hid (Below N w wr) ∧ t.length ≤ k) (fun i _ => n - (intOf i).toNat)
  case atStart =>
    obtain ⟨W, rfl, h1, h2⟩ := H0.out
    exact ⟨0, [], Nat.zero_le _, rfl, Lib.hid (CutAt.start l), Lib.hid h1, Lib.hid h2, Nat.le_refl _⟩
  case round =>
    obtain ⟨k, t, hk, rfl, HQ, HB, HW, hac⟩ := hrel
    clear H0
    by_cases hlt : k < n
    · have hks : k < s.size := by omega
      obtain ⟨x, hx, hdr⟩ := HX.out k hlt hks
      have HDR := Lib.hid hdr
      clear hdr
      by_cases h59 : x = 59
      · have HD : Hid (cutT l = some (t, l.drop (k + 1))) := Lib.hid (CutAt.done (by rw [← h59, ← HDR.out]; exact HQ.out))
        have HC : Hid (∀ w1, Below wr.heap.size wr w1 → Calls Tryz.prog 48 #[.pointer (some ⟨N, 0, none⟩)] w1 fun e w3 => e = .returned (.string (mkS t)) ∧ CutW l w (.returned (.tuple #[.string (mkS t), .string (s.extract (k + 1) n), .int .i64 0])) w3) := Lib.hid fun w1 hb1 => by
          refine (BString_any N N t _ (HB.out.below hb1)).mono ?_
          rintro e w3 ⟨rfl, hb3⟩
          refine ⟨rfl, ?_⟩
          rw [HEX.out]
          exact CutW.yes HD.out (by rw [← HNE.out]; exact (HW.out.trans (hb1.mono (by have := HB.out.lt; omega))).trans hb3)
        have hk1 : (k : Int) + 1 ≤ (n : Int) := by omega
        have hk2 : IntKind.i64.wrap ((k : Int) + 1) = (k : Int) + 1 := i64_wrap_le (by omega) (by omega)
        have hk3 : (0 : Int) ≤ (k : Int) + 1 := by omega
        have b59 : ((x.toNat : Int) == (((⟨#[59]⟩ : ByteArray)[0]'(by decide)).toNat : Int)) = true := by rw [h59]; decide
        clear HX h59
        go_wp2_with fail
        refine wp_region_held_drew (S := (fun _ => True)) (by kernel_rfl) (by (try dsimp only); try trivial) (fun hHeld => ?_)
        refine wpAnyH_take (i := 1) (v := ?_) rfl (by kernel_rfl) (by kernel_rfl) (by kernel_rfl) (fun _ _ _ h => h) (Or.inl ⟨by rfl, ?_⟩) (by assumption) ?_
        rotate_left
        · (intro w hSw; (try dsimp only at hSw); go_simp; try with_reducible rfl)
        try simp only [Act.put, List.getElem_toArray, List.getElem_cons_zero, List.getElem_cons_succ, List.setIfInBounds_toArray, List.set_cons_zero, List.set_cons_succ]
        refine wpAnyH_take (i := 2) (v := ?_) rfl (by kernel_rfl) (by kernel_rfl) (by kernel_rfl) (fun _ _ _ h => h) (Or.inl ⟨by rfl, ?_⟩) (by assumption) ?_
        rotate_left
        · (intro w hSw; (try dsimp only at hSw); go_simp; try with_reducible rfl)
        try simp only [Act.put, List.getElem_toArray, List.getElem_cons_zero, List.getElem_cons_succ, List.setIfInBounds_toArray, List.set_cons_zero, List.set_cons_succ]
        refine wpAnyH_take (i := 3) (v := ?_) rfl (by kernel_rfl) (by kernel_rfl) (by kernel_rfl) (fun _ _ _ h => h) (Or.inl ⟨by rfl, ?_⟩) (by assumption) ?_
        rotate_left
        · (intro w hSw; (try dsimp only at hSw); go_simp; try with_reducible rfl)
        try simp only [Act.put, List.getElem_toArray, List.getElem_cons_zero, List.getElem_cons_succ, List.setIfInBounds_toArray, List.set_cons_zero, List.set_cons_succ]
        refine wpAnyH_take (i := 4) (v := ?_) rfl (by kernel_rfl) (by kernel_rfl) (by kernel_rfl) (fun _ _ _ h => h) (Or.inl ⟨by rfl, ?_⟩) (by assumption) ?_
        rotate_left
        · (intro w hSw; (try dsimp only at hSw); go_simp; try with_reducible rfl)
        try simp only [Act.put, List.getElem_toArray, List.getElem_cons_zero, List.getElem_cons_succ, List.setIfInBounds_toArray, List.set_cons_zero, List.set_cons_succ]
        refine wpAnyH_ready (rs := [0]) (by kernel_rfl) (by simp) ?_
        refine AllReadyH.cons rfl (fun K hK => ?_) AllReadyH.nil
        go_simp
        go_at_call 48
        refine (HC.out _ (by first | exact (Below.refl _ _).drew | exact below_of_drewN _ _)).mono ?_
        rintro e w3 ⟨rfl, h3⟩
        refine hK.out _ _ (by (try dsimp only); try trivial) (fun hHeld => ?_)
        clear hK K
        try simp only [Act.put, List.getElem_toArray, List.getElem_cons_zero, List.getElem_cons_succ, List.setIfInBounds_toArray, List.set_cons_zero, List.set_cons_succ]
        refine wpAnyH_take (i := 5) (v := ?_) rfl (by kernel_rfl) (by kernel_rfl) (by kernel_rfl) (fun _ _ _ h => h) (Or.inl ⟨by rfl, ?_⟩) (by assumption) ?_
        rotate_left
        · (intro w hSw; (try dsimp only at hSw); go_simp; try with_reducible rfl)
        try simp only [Act.put, List.getElem_toArray, List.getElem_cons_zero, List.getElem_cons_succ, List.setIfInBounds_toArray, List.set_cons_zero, List.set_cons_succ]
        refine wpAnyH_take (i := 6) (v := ?_) rfl (by kernel_rfl) (by kernel_rfl) (by kernel_rfl) (fun _ _ _ h => h) (Or.inl ⟨by rfl, ?_⟩) (by assumption) ?_
        rotate_left
        · (intro w hSw; (try dsimp only at hSw); go_simp; try with_reducible rfl)
        try simp only [Act.put, List.getElem_toArray, List.getElem_cons_zero, List.getElem_cons_succ, List.setIfInBounds_toArray, List.set_cons_zero, List.set_cons_succ]
        refine wpAnyH_take (i := 7) (v := ?_) rfl (by kernel_rfl) (by kernel_rfl) (by kernel_rfl) (fun _ _ _ h => h) (Or.inl ⟨by rfl, ?_⟩) (by assumption) ?_
        rotate_left
        · (intro w hSw; (try dsimp only at hSw); go_simp; try with_reducible rfl)
        try simp only [Act.put, List.getElem_toArray, List.getElem_cons_zero, List.getElem_cons_succ, List.setIfInBounds_toArray, List.set_cons_zero, List.set_cons_succ]
        refine wpAnyH_done (by kernel_rfl) ?_ _
        go_wp2
        go_ret3
        exact h3
      · have b59 : ((x.toNat : Int) == (((⟨#[59]⟩ : ByteArray)[0]'(by decide)).toNat : Int)) = false := byte_ne h59
        have hk2 : IntKind.i64.wrap ((k : Int) + 1) = (k : Int) + 1 := i64_wrap_le (by omega) (by omega)
        by_cases h92 : x = 92
        · have b92 : ((x.toNat : Int) == (((⟨#[92]⟩ : ByteArray)[0]'(by decide)).toNat : Int)) = true := by rw [h92]; decide
          have HDR1 : Hid (l.drop k = 92 :: l.drop (k + 1)) := Lib.hid (by rw [HDR.out, h92])
          clear h92 h59
          go_wp2_with fail
          rw [show (k : Int) + 1 = ((k + 1 : Nat) : Int) from by omega]
          obtain ⟨m, hm⟩ : ∃ m, m = k + 1 := ⟨_, rfl⟩
          rw [← hm]
          have hmk : m ≤ n := by omega
          have HMK := Lib.hid hm
          have hmk2 : k < m := by omega
          rw [← hm] at HDR1
          clear hm hk2 hx b59 b92
          by_cases hmn : m = n
          · have HN : Hid (∀ q, CutW l w (.returned (.tuple #[.string ⟨#[]⟩, .string ⟨#[]⟩, .int .i64 220])) (wr.drewN q)) := Lib.hid fun q => (CutW.no (HQ.out.none (by rw [HDR1.out, hmn, HHN.out, List.drop_length]; rfl)) (by rw [← HNE.out]; exact below_drewN HW.out q))
            have b1 : ((m : Int) == (n : Int)) = true := by rw [hmn]; simp
            clear hmn hmk hmk2
            go_quiet (fail)
            go_wp2
            go_ret3
            exact HN.out _
          · have b1 : ((m : Int) == (n : Int)) = false := by rw [beq_eq_false_iff_ne]; omega
            have hmlt : m < n := by omega
            have hmls : m < s.size := by omega
            obtain ⟨y, hy, hdr2⟩ := HX.out m hmlt hmls
            by_cases hye : y = 92 ∨ y = 59
            · have HQ2 : Hid (CutAt l (t ++ [y]) (l.drop (m + 1))) := Lib.hid (CutAt.esc (by rw [← hdr2, ← HDR1.out]; exact HQ.out) hye)
              have HC := Lib.hid fun q => WriteByte_any N N t y (wr.drewN q) (HB.out.below (below_of_drewN _ _)) (by omega)
              clear hdr2
              by_cases hy92 : y = 92
              · have c92 : ((y.toNat : Int) != (((⟨#[92]⟩ : ByteArray)[0]'(by decide)).toNat : Int)) = false := by rw [hy92]; decide
                clear hye hy92
                go_quiet (fail)
                go_wp2_with fail
                refine (HC.out _).mono ?_
                rintro e w1 ⟨rfl, h1, hb1⟩
                have H1 := Lib.hid h1
                have HB1 := Lib.hid ((below_drewN HW.out _).trans hb1)
                clear h1 hb1
                go_wp2
                go_roundw
                case rel => exact ⟨m + 1, t ++ [y], by omega, by go_num, HQ2, H1, HB1, by simp; omega⟩
                case measure => simp [intOf]; omega
              · have c92 : ((y.toNat : Int) != (((⟨#[92]⟩ : ByteArray)[0]'(by decide)).toNat : Int)) = true := byte_bne hy92
                have c59 : ((y.toNat : Int) != (((⟨#[59]⟩ : ByteArray)[0]'(by decide)).toNat : Int)) = false := by rw [hye.resolve_left hy92]; decide
                clear hye hy92
                go_quiet (fail)
                go_wp2_with fail
                refine (HC.out _).mono ?_
                rintro e w1 ⟨rfl, h1, hb1⟩
                have H1 := Lib.hid h1
                have HB1 := Lib.hid ((below_drewN HW.out _).trans hb1)
                clear h1 hb1
                go_wp2
                go_roundw
                case rel => exact ⟨m + 1, t ++ [y], by omega, by go_num, HQ2, H1, HB1, by simp; omega⟩
                case measure => simp [intOf]; omega
            · have HN : Hid (∀ q, CutW l w (.returned (.tuple #[.string ⟨#[]⟩, .string ⟨#[]⟩, .int .i64 220])) (wr.drewN q)) := Lib.hid fun q => (CutW.no (HQ.out.none (by rw [HDR1.out, hdr2]; exact cutT_bad _ _ hye)) (by rw [← HNE.out]; exact below_drewN HW.out q))
              have hy92 : y ≠ 92 := fun h => hye (.inl h)
              have hy59 : y ≠ 59 := fun h => hye (.inr h)
              have c92 : ((y.toNat : Int) != (((⟨#[92]⟩ : ByteArray)[0]'(by decide)).toNat : Int)) = true := byte_bne hy92
              have c59 : ((y.toNat : Int) != (((⟨#[59]⟩ : ByteArray)[0]'(by decide)).toNat : Int)) = true := byte_bne hy59
              clear hye hy92 hy59 hdr2
              go_quiet (fail)
              go_wp2
              go_ret3
              exact HN.out _
        · have b92 : ((x.toNat : Int) == (((⟨#[92]⟩ : ByteArray)[0]'(by decide)).toNat : Int)) = false := byte_ne h92
          have HQ2 : Hid (CutAt l (t ++ [x]) (l.drop (k + 1))) := Lib.hid (CutAt.plain (by rw [← HDR.out]; exact HQ.out) h92 h59)
          have HC := Lib.hid (WriteByte_any N N t x wr HB.out (by omega))
          clear h92 h59 HX
          go_wp2_with fail
          refine HC.out.mono ?_
          rintro e w1 ⟨rfl, h1, hb1⟩
          have H1 := Lib.hid h1
          have HB1 := Lib.hid (HW.out.trans hb1)
          clear h1 hb1
          go_wp2
          go_roundw
          case rel => exact ⟨k + 1, t ++ [x], by omega, by go_num, HQ2, H1, HB1, by simp; omega⟩
          case measure => simp [intOf]; omega
    · have hk : k = n := by omega
      subst hk
      have HN : Hid (CutW l w (.returned (.tuple #[.string ⟨#[]⟩, .string ⟨#[]⟩, .int .i64 220])) wr) := Lib.hid (CutW.no (HQ.out.none (by rw [HHN.out, List.drop_length]; rfl)) (by rw [← HNE.out]; exact HW.out))
      go_wp2
      go_ret3
      exact HN.out
end Go.Proofs.YthfoffcfbfmajaaGreatDoor

/- cell: readTexts, read. -/
namespace Go.Proofs.YthfoffcfbfmajaaGreatDoor
open Go.RowKit
set_option linter.unusedVariables false

/-- what readTexts answers -/
def RdTs (l : Bs) (w : World) (e : Ending) (w' : World) : Prop := ∃ A c, e = .returned (.tuple #[.slice A (readV 8 l).1.ts.length c, .int .i64 (readV 8 l).2]) ∧ St Zf [OlA svl 9 (.slice A (readV 8 l).1.ts.length c) (readV 8 l).1.ts] w w'
/-- X is read, l' is left -/
def TextsAt (l : Bs) (X : Rw) (l' : Bs) : Prop := readT l = ((readT l').map fun Y => X.map lS ++ Y) ∧ l'.length + X.length ≤ l.length
theorem TextsAt.start (l : Bs) : TextsAt l [] l := by
  refine ⟨?_, by simp⟩
  cases readT l <;> simp
theorem TextsAt.next {l l' t r : Bs} {X : Rw} (h : TextsAt l X l') (hc : cutT l' = some (t, r)) : TextsAt l (X ++ [mkS t]) r := by
  obtain ⟨h1, h2⟩ := h
  have h3 := cutT_lt hc
  rw [readT_some hc] at h1
  refine ⟨?_, by simp; omega⟩
  rw [h1]
  cases readT r <;> simp [lS_mk]
theorem TextsAt.bad {l l' : Bs} {X : Rw} (h : TextsAt l X l') (h0 : l' ≠ []) (hc : cutT l' = none) : readT l = none := by
  rw [h.1, readT_none h0 hc]
  rfl
theorem TextsAt.done {l : Bs} {X : Rw} (h : TextsAt l X []) : readV 8 l = (⟨8, 0, mkS [], [], X⟩, 0) := by
  have h1 : readT l = some (X.map lS) := by rw [h.1, readT_nil]; simp
  rw [readV_texts h1, mk_lSL]
theorem St.none_of {L0 : List Ass} {w w' : World} (h : St Zf L0 w w') : St Zf [] w w' := by
  obtain ⟨F, _, h2, _⟩ := h
  exact ⟨fun _ => False, rfl, h2, fun _ h => h.elim⟩
theorem RdTs.err {l : Bs} {w w' : World} {L0 : List Ass} (he : readT l = none) (h : St Zf L0 w w') : RdTs l w (.returned (.tuple #[.slice none 0 0, .int .i64 220])) w' := by
  unfold RdTs
  rw [readV_texts_no he]
  exact ⟨none, 0, rfl, St.nilOl (l := []) h.none_of svl 9⟩
set_option maxRecDepth 100000 in
set_option maxHeartbeats 1000000 in
theorem readTexts_any (l : Bs) (w : World) (hl : l.length ≤ 1073741824) :
    Calls Tryz.prog 36 #[.string (mkS l)] w (RdTs l w) := by
  have HL := Lib.hid hl
  obtain ⟨j0, hj, hy0, hy1, hy2⟩ := info_parts str_info
  clear hl
  go_enter Tryz.func36, Tryz.ntmps36
  go_wp2
  go_loopg [4, 5] (l.length + 1) (fun gk v r wr => ∃ (X : Rw) (l' : Bs) (A : Option Addr) (c : Nat), v = .slice A X.length c ∧ r = .string (mkS l') ∧ Hid (St Zf [OlA svl 9 (.slice A X.length c) X] w wr) ∧ Hid (TextsAt l X l' ∧ l'.length + 1 ≤ gk))
  case atStart => exact ⟨[], l, none, 0, rfl, rfl, Lib.hid ((St.start Zf w).nilOl svl 9), Lib.hid ⟨TextsAt.start _, Nat.le_refl _⟩⟩
  case round =>
    obtain ⟨X, l', A, c, rfl, rfl, HS, HN⟩ := hrel
    have hne := mkS_ne l'
    by_cases h0 : l' = []
    · subst h0
      rw [decide_eq_true rfl] at hne
      have HF : Hid (RdTs l w (.returned (.tuple #[.slice A X.length c, .int .i64 0])) wr) := Lib.hid (by
        unfold RdTs
        rw [HN.out.1.done]
        exact ⟨A, c, rfl, HS.out⟩)
      go_wp2
      go_ret2
      exact HF.out
    · rw [decide_eq_false h0] at hne
      have hl1 := HN.out.1.2
      have HC := Lib.hid (cutText_any l' wr (by have := HL.out; omega))
      unfold CutW at HC
      cases hc : cutT l' with
      | none =>
        rw [hc] at HC
        have HF : Hid (∀ w', Below wr.heap.size wr w' → RdTs l w (.returned (.tuple #[.slice none 0 0, .int .i64 220])) w') := Lib.hid fun w' hb => RdTs.err (HN.out.1.bad h0 hc) (HS.out.below hb)
        clear h0 hc hl1 HN
        go_wp2_with fail
        refine HC.out.mono ?_
        rintro e w1 ⟨rfl, hb1⟩
        have HF2 := Lib.hid (HF.out _ hb1)
        clear hb1
        go_wp2
        go_ret2
        exact HF2.out
      | some p =>
        obtain ⟨t, b⟩ := p
        have HC : Hid (Calls Tryz.prog 55 #[.string (mkS l')] wr fun e w' => e = .returned (.tuple #[.string (mkS t), .string (mkS b), .int .i64 0]) ∧ Below wr.heap.size wr w') := Lib.hid (by
          have h := HC.out
          rw [hc] at h
          exact h)
        have HN2 := Lib.hid (HN.out.1.next hc)
        have hby : (X.length + 1) * 16 ≤ 140737488355328 := by have := HL.out; omega
        have hgk : b.length + 1 + 1 ≤ gk := by have := HN.out.2; have := cutT_lt hc; omega
        obtain ⟨gk, rfl⟩ : ∃ gk', gk = gk' + 1 := ⟨gk - 1, by omega⟩
        have HG : Hid (b.length + 1 ≤ gk) := Lib.hid (by omega)
        generalize mkS t = S1 at HC HN2
        clear h0 hc hl1 hgk HN
        go_wp2_with fail
        refine HC.out.mono ?_
        rintro e w1 ⟨rfl, hb1⟩
        have HS2 := Lib.hid (HS.out.below hb1)
        clear hb1
        go_wp2_with (at_builtin; refine wpList_append_elemN _ rfl _ _ 23 rfl 0 9 j0 _ 16 Tryz.underlying23 hj hy0 hy1 hy2 rfl _ X (by rfl) HS2.out.ol S1 (svl_ok S1) _ rfl (by rfl) hby (by omega) (Nat.zero_le _) ?_; intro v7 w7 hown7 hg7 hat7; have h7 := HS2.out.grewOl hown7 hg7 hat7 (by simp); obtain ⟨O, hO⟩ : ∃ O, O = X ++ [S1] := ⟨_, rfl⟩; rw [← hO] at hown7 h7 HN2; obtain ⟨A7, c7, rfl, -, -, -, -⟩ := hown7.form; have H7 := Lib.hid h7; clear hown7 hg7 hat7 h7 hO)
        go_wp2
        go_roundg gk
        case measure => omega
        case rel => exact ⟨O, b, A7, c7, rfl, rfl, H7, Lib.hid ⟨HN2.out, HG.out⟩⟩

/-- a value, its lists new and apart -/
def NewP (p : Vv × Int) (w : World) (e : Ending) (w' : World) : Prop := ∃ A c A' c', e = .returned (.tuple #[vagg p.1 A c A' c', .int .i64 p.2]) ∧ St Zf [OlA ivl 2 (.slice A p.1.ns.length c) p.1.ns, OlA svl 9 (.slice A' p.1.ts.length c') p.1.ts] w w'
theorem results_agg_tmp {P : Program} {fn : Func} {p u : Tmp} {ty : TypeId} (h : fn.results = #[.cell p ty, .tmp u]) (tmps : Array Value) (w : World) (g : Nat) (t : TypeId) (cs : Array Value) (d : TypeDesc)
    (hp : tmps.getD p undef = .pointer (some ⟨g, 0, none⟩)) (hg : Blk w g t cs)
    (hu : P.underlying ty = some d) (hd : (match d with | .struct _ | .array _ _ => true | _ => false) = true) (hi : (P.info? ty).map (·.size) = some cs.size) :
    (results fn tmps).run P w = .ok (.tuple #[.agg cs, tmps.getD u undef]) w := by
  rw [results_cell_tmp h, hp]
  simp [asAddr, run_loadVar_row w g t ty cs (0, 0) d hg hu hd hi, Result.andThen]
theorem St.addStM {S : Fp} {l l' : List Ass} {w0 w w' : World} (h : St S l w0 w) [Stable (Sep l)] [Stable (Sep l')] (k : St Zf l' w w') : St S (l' ++ l) w0 w' := by
  have hb := k.bel
  obtain ⟨F, h1, ho, hf⟩ := k
  exact (h.add (Q := Sep l') (F := F) hb h1 fun k hk => (hf k hk).elim (fun h => h.elim) id).flat
/-- the two boxes of read: the result's, the value's -/
theorem boxes2 (w : World) (k : Int) : St Zf [BlkA (w.heap.size + 1) 25 #[.int .i64 k, .int .i64 0, .string ⟨#[]⟩, .slice none 0 0, .slice none 0 0], BlkA w.heap.size 25 #[.int .i64 0, .int .i64 0, .string ⟨#[]⟩, .slice none 0 0, .slice none 0 0]] w
    ((w.alloc (.cells #[.int .i64 0, .int .i64 0, .string ⟨#[]⟩, .slice none 0 0, .slice none 0 0] 25)).alloc (.cells #[.int .i64 k, .int .i64 0, .string ⟨#[]⟩, .slice none 0 0, .slice none 0 0] 25)) := by
  have h := ((St.start Zf w).newBlk 25 #[.int .i64 0, .int .i64 0, .string ⟨#[]⟩, .slice none 0 0, .slice none 0 0]).newBlk 25 #[.int .i64 k, .int .i64 0, .string ⟨#[]⟩, .slice none 0 0, .slice none 0 0]
  rw [World.size_alloc] at h
  exact h
theorem blk_facts {S : Fp} {l : List Ass} {w0 w : World} {g : Nat} {t : TypeId} {a b c d e : Value} (h : St S (BlkA g t #[a, b, c, d, e] :: l) w0 w) :
    (w.cell? ⟨g, 0, none⟩ = some a ∧ w.cell? ⟨g, 1, none⟩ = some b ∧ w.cell? ⟨g, 2, none⟩ = some c ∧ w.cell? ⟨g, 3, none⟩ = some d ∧ w.cell? ⟨g, 4, none⟩ = some e) ∧ (∀ i, w.frozen? ⟨g, i, none⟩ = false) ∧ g < w.heap.size :=
  ⟨⟨by rw [h.blk.cell 0]; rfl, by rw [h.blk.cell 1]; rfl, by rw [h.blk.cell 2]; rfl, by rw [h.blk.cell 3]; rfl, by rw [h.blk.cell 4]; rfl⟩, fun i => h.blk.frozen i, h.blk.lt⟩
set_option maxRecDepth 100000 in
set_option maxHeartbeats 1000000 in
theorem read_text (l : Bs) (w : World) (hl : l.length ≤ 1073741824) : Calls Tryz.prog 22 #[.int .i64 4, .string (mkS l)] w (NewP (readV 4 l) w) := by
  have HC := Lib.hid fun w => SClone_any (mkS l) w (by rw [mkS_size]; omega)
  have HB := Lib.hid (boxes2 w 4)
  rw [readV_text]
  clear hl
  generalize mkS l = S at HC ⊢
  obtain ⟨N, hN⟩ : ∃ N, N = w.heap.size := ⟨_, rfl⟩
  go_enter Tryz.func22, Tryz.ntmps22
  go_wp2_with fail
  rw [← hN] at HB ⊢
  refine (HC.out _).mono ?_
  rintro e w1 ⟨rfl, hb1⟩
  have H1 := Lib.hid (HB.out.below hb1)
  obtain ⟨⟨c0, c1, c2, c3, c4⟩, f0, l0⟩ := blk_facts H1.out
  obtain ⟨⟨d0, d1, d2, d3, d4⟩, g0, l1⟩ := blk_facts H1.out.swap
  have F0 := f0 2
  have G0 := g0 0
  have G1 := g0 1
  have G2 := g0 2
  have G3 := g0 3
  have G4 := g0 4
  clear hb1 hN HB
  go_wp2_with fail
  have H2 := (H1.out.setBlk 2 (.string S)).swap
  have H3 := ((((H2.setBlk 0 (.int .i64 4)).setBlk 1 (.int .i64 0)).setBlk 2 (.string S)).setBlk 3 (.slice none 0 0)).setBlk 4 (.slice none 0 0)
  simp only [List.setIfInBounds_toArray, List.set_cons_zero, List.set_cons_succ] at H3
  refine bodyPost_ret (results_agg_tmp rfl _ _ N 25 #[.int .i64 4, .int .i64 0, .string S, .slice none 0 0, .slice none 0 0] _ rfl H3.blk Tryz.underlying25 rfl (by kernel_rfl)) rfl ?_
  exact ⟨none, 0, none, 0, rfl, St.nilOl (l := [_]) (St.nilOl (l := []) H3.none_of svl 9) ivl 2⟩
set_option maxRecDepth 100000 in
set_option maxHeartbeats 1000000 in
theorem read_texts (l : Bs) (w : World) (hl : l.length ≤ 1073741824) : Calls Tryz.prog 22 #[.int .i64 8, .string (mkS l)] w (NewP (readV 8 l) w) := by
  have HC := Lib.hid fun w => readTexts_any l w hl
  have HB := Lib.hid (boxes2 w 8)
  have hs : readV 8 l = (⟨8, 0, mkS [], [], (readV 8 l).1.ts⟩, (readV 8 l).2) := by
    cases h : readT l with
    | none => rw [readV_texts_no h]
    | some L => rw [readV_texts h]
  have HC2 : Hid (∀ w, Calls Tryz.prog 36 #[.string (mkS l)] w fun e w' => ∃ A c, e = .returned (.tuple #[.slice A (readV 8 l).1.ts.length c, .int .i64 (readV 8 l).2]) ∧ St Zf [OlA svl 9 (.slice A (readV 8 l).1.ts.length c) (readV 8 l).1.ts] w w') := HC
  rw [hs]
  generalize (readV 8 l).1.ts = X at HC2 ⊢
  generalize (readV 8 l).2 = E at HC2 ⊢
  generalize mkS l = S at HC2 ⊢
  clear hl hs HC
  obtain ⟨N, hN⟩ : ∃ N, N = w.heap.size := ⟨_, rfl⟩
  go_enter Tryz.func22, Tryz.ntmps22
  go_wp2_with fail
  rw [← hN] at HB ⊢
  refine (HC2.out _).mono ?_
  rintro e w1 ⟨A, c, rfl, h1⟩
  have H1 := Lib.hid (St.addStL HB.out h1).swap.bring2
  obtain ⟨⟨d0, d1, d2, d3, d4⟩, g0, l1⟩ := blk_facts H1.out
  obtain ⟨⟨c0, c1, c2, c3, c4⟩, f0, l0⟩ := blk_facts H1.out.swap
  have F0 := f0 4
  have G0 := g0 0
  have G1 := g0 1
  have G2 := g0 2
  have G3 := g0 3
  have G4 := g0 4
  clear h1 hN HB
  go_wp2_with fail
  have H2 := (H1.out.swap.setBlk 4 (.slice A X.length c)).swap
  have H3 := ((((H2.setBlk 0 (.int .i64 8)).setBlk 1 (.int .i64 0)).setBlk 2 (.string ⟨#[]⟩)).setBlk 3 (.slice none 0 0)).setBlk 4 (.slice A X.length c)
  simp only [List.setIfInBounds_toArray, List.set_cons_zero, List.set_cons_succ] at H3
  refine bodyPost_ret (results_agg_tmp rfl _ _ N 25 #[.int .i64 8, .int .i64 0, .string ⟨#[]⟩, .slice none 0 0, .slice A X.length c] _ rfl H3.blk Tryz.underlying25 rfl (by kernel_rfl)) rfl ?_
  exact ⟨none, 0, A, c, rfl, St.nilOl (l := [_]) H3.drop.drop ivl 2⟩
set_option maxRecDepth 100000 in
set_option maxHeartbeats 2000000 in
theorem read_nums (k : Int) (hk : 4 < k) (hk2 : k < 8) (l : Bs) (w : World) (hW : CeW w) (hl : l.length ≤ 1073741824) : Calls Tryz.prog 22 #[.int .i64 k, .string (mkS l)] w (NewP (readV k l) w) := by
  have HB := Lib.hid (boxes2 w k)
  have hs := readV_nums hk hk2 l
  have HC2 : Hid (∀ w1, Below w.heap.size w w1 → Calls Tryz.prog 37 #[.int .i64 (k - 4), .string (mkS l)] w1 fun e w' => ∃ A c, e = .returned (.tuple #[.slice A (readN (numR (k - 4)) l).1.length c, .int .i64 (readN (numR (k - 4)) l).2]) ∧ St Zf [OlA ivl 2 (.slice A (readN (numR (k - 4)) l).1.length c) (readN (numR (k - 4)) l).1] w1 w') := Lib.hid fun w1 hb => readNumbers_any (k - 4) l w1 (hW.below hb (Nat.le_refl _)) hl
  rw [hs]
  generalize (readN (numR (k - 4)) l).1 = X at HC2 ⊢
  generalize (readN (numR (k - 4)) l).2 = E at HC2 ⊢
  generalize mkS l = S at HC2 ⊢
  have HBB := Lib.hid HB.out.bel
  clear hl hs hW
  obtain ⟨N, hN⟩ : ∃ N, N = w.heap.size := ⟨_, rfl⟩
  rcases (show k = 5 ∨ k = 6 ∨ k = 7 by omega) with rfl | rfl | rfl
  all_goals
    clear hk hk2
    go_enter Tryz.func22, Tryz.ntmps22
    go_wp2_with fail
    have HC3 := Lib.hid (HC2.out _ HBB.out)
    rw [← hN] at HB ⊢
    refine HC3.out.mono ?_
    rintro e w1 ⟨A, c, rfl, h1⟩
    have H1 := Lib.hid (St.addStL HB.out h1).swap.bring2
    obtain ⟨⟨d0, d1, d2, d3, d4⟩, g0, l1⟩ := blk_facts H1.out
    obtain ⟨⟨c0, c1, c2, c3, c4⟩, f0, l0⟩ := blk_facts H1.out.swap
    have F0 := f0 3
    have G0 := g0 0
    have G1 := g0 1
    have G2 := g0 2
    have G3 := g0 3
    have G4 := g0 4
    clear h1 hN HB HC2 HC3 HBB
    go_wp2_with fail
  · have H2 := (H1.out.swap.setBlk 3 (.slice A X.length c)).swap
    have H3 := ((((H2.setBlk 0 (.int .i64 5)).setBlk 1 (.int .i64 0)).setBlk 2 (.string ⟨#[]⟩)).setBlk 3 (.slice A X.length c)).setBlk 4 (.slice none 0 0)
    simp only [List.setIfInBounds_toArray, List.set_cons_zero, List.set_cons_succ] at H3
    refine bodyPost_ret (results_agg_tmp rfl _ _ N 25 #[.int .i64 5, .int .i64 0, .string ⟨#[]⟩, .slice A X.length c, .slice none 0 0] _ rfl H3.blk Tryz.underlying25 rfl (by kernel_rfl)) rfl ?_
    exact ⟨A, c, none, 0, rfl, (St.nilOl (l := [_]) H3.drop.drop svl 9).swap⟩
  · have H2 := (H1.out.swap.setBlk 3 (.slice A X.length c)).swap
    have H3 := ((((H2.setBlk 0 (.int .i64 6)).setBlk 1 (.int .i64 0)).setBlk 2 (.string ⟨#[]⟩)).setBlk 3 (.slice A X.length c)).setBlk 4 (.slice none 0 0)
    simp only [List.setIfInBounds_toArray, List.set_cons_zero, List.set_cons_succ] at H3
    refine bodyPost_ret (results_agg_tmp rfl _ _ N 25 #[.int .i64 6, .int .i64 0, .string ⟨#[]⟩, .slice A X.length c, .slice none 0 0] _ rfl H3.blk Tryz.underlying25 rfl (by kernel_rfl)) rfl ?_
    exact ⟨A, c, none, 0, rfl, (St.nilOl (l := [_]) H3.drop.drop svl 9).swap⟩
  · have H2 := (H1.out.swap.setBlk 3 (.slice A X.length c)).swap
    have H3 := ((((H2.setBlk 0 (.int .i64 7)).setBlk 1 (.int .i64 0)).setBlk 2 (.string ⟨#[]⟩)).setBlk 3 (.slice A X.length c)).setBlk 4 (.slice none 0 0)
    simp only [List.setIfInBounds_toArray, List.set_cons_zero, List.set_cons_succ] at H3
    refine bodyPost_ret (results_agg_tmp rfl _ _ N 25 #[.int .i64 7, .int .i64 0, .string ⟨#[]⟩, .slice A X.length c, .slice none 0 0] _ rfl H3.blk Tryz.underlying25 rfl (by kernel_rfl)) rfl ?_
    exact ⟨A, c, none, 0, rfl, (St.nilOl (l := [_]) H3.drop.drop svl 9).swap⟩
set_option maxRecDepth 100000 in
set_option maxHeartbeats 2000000 in
theorem read_num (k : Int) (hk : 1 ≤ k) (hk2 : k < 4) (l : Bs) (w : World) (hW : CeW w) (hl : l.length ≤ 1073741824) : Calls Tryz.prog 22 #[.int .i64 k, .string (mkS l)] w (NewP (readV k l) w) := by
  have HB := Lib.hid (boxes2 w k)
  have hs := readV_num hk2 l
  have HC2 : Hid (∀ w1, Below w.heap.size w w1 → Calls Tryz.prog 38 #[.int .i64 k, .string (mkS l)] w1 fun e w' => e = .returned (.tuple #[.int .i64 (numR k l).1, .int .i64 (numR k l).2]) ∧ Below w1.heap.size w1 w') := Lib.hid fun w1 hb => readNumber_any k (mkS l) w1 (hW.below hb (Nat.le_refl _)).tabs (by rw [mkS_size]; omega)
  rw [hs]
  generalize (numR k l).1 = X at HC2 ⊢
  generalize (numR k l).2 = E at HC2 ⊢
  generalize mkS l = S at HC2 ⊢
  have HBB := Lib.hid HB.out.bel
  clear hl hs hW
  obtain ⟨N, hN⟩ : ∃ N, N = w.heap.size := ⟨_, rfl⟩
  rcases (show k = 1 ∨ k = 2 ∨ k = 3 by omega) with rfl | rfl | rfl
  all_goals
    clear hk hk2
    go_enter Tryz.func22, Tryz.ntmps22
    go_wp2_with fail
    have HC3 := Lib.hid (HC2.out _ HBB.out)
    rw [← hN] at HB ⊢
    refine HC3.out.mono ?_
    rintro e w1 ⟨rfl, hb1⟩
    have H1 := Lib.hid (HB.out.below hb1).swap
    obtain ⟨⟨d0, d1, d2, d3, d4⟩, g0, l1⟩ := blk_facts H1.out
    obtain ⟨⟨c0, c1, c2, c3, c4⟩, f0, l0⟩ := blk_facts H1.out.swap
    have F0 := f0 1
    have G0 := g0 0
    have G1 := g0 1
    have G2 := g0 2
    have G3 := g0 3
    have G4 := g0 4
    clear hb1 hN HB HC2 HC3 HBB
    go_wp2_with fail
  · have H3 := ((((((H1.out.swap.setBlk 1 (.int .i64 X)).swap).setBlk 0 (.int .i64 1)).setBlk 1 (.int .i64 X)).setBlk 2 (.string ⟨#[]⟩)).setBlk 3 (.slice none 0 0)).setBlk 4 (.slice none 0 0)
    simp only [List.setIfInBounds_toArray, List.set_cons_zero, List.set_cons_succ] at H3
    refine bodyPost_ret (results_agg_tmp rfl _ _ N 25 _ _ rfl H3.blk Tryz.underlying25 rfl (by kernel_rfl)) rfl ?_
    exact ⟨none, 0, none, 0, rfl, St.nilOl (l := [_]) (St.nilOl (l := []) H3.none_of svl 9) ivl 2⟩
  · have H3 := ((((((H1.out.swap.setBlk 1 (.int .i64 X)).swap).setBlk 0 (.int .i64 2)).setBlk 1 (.int .i64 X)).setBlk 2 (.string ⟨#[]⟩)).setBlk 3 (.slice none 0 0)).setBlk 4 (.slice none 0 0)
    simp only [List.setIfInBounds_toArray, List.set_cons_zero, List.set_cons_succ] at H3
    refine bodyPost_ret (results_agg_tmp rfl _ _ N 25 _ _ rfl H3.blk Tryz.underlying25 rfl (by kernel_rfl)) rfl ?_
    exact ⟨none, 0, none, 0, rfl, St.nilOl (l := [_]) (St.nilOl (l := []) H3.none_of svl 9) ivl 2⟩
  · have H3 := ((((((H1.out.swap.setBlk 1 (.int .i64 X)).swap).setBlk 0 (.int .i64 3)).setBlk 1 (.int .i64 X)).setBlk 2 (.string ⟨#[]⟩)).setBlk 3 (.slice none 0 0)).setBlk 4 (.slice none 0 0)
    simp only [List.setIfInBounds_toArray, List.set_cons_zero, List.set_cons_succ] at H3
    refine bodyPost_ret (results_agg_tmp rfl _ _ N 25 _ _ rfl H3.blk Tryz.underlying25 rfl (by kernel_rfl)) rfl ?_
    exact ⟨none, 0, none, 0, rfl, St.nilOl (l := [_]) (St.nilOl (l := []) H3.none_of svl 9) ivl 2⟩
theorem read_any {k : Int} (hk : 1 ≤ k ∧ k ≤ 8) (l : Bs) (w : World) (hW : CeW w) (hl : l.length ≤ 1073741824) : Calls Tryz.prog 22 #[.int .i64 k, .string (mkS l)] w (NewP (readV k l) w) := by
  rcases (show k < 4 ∨ k = 4 ∨ (4 < k ∧ k < 8) ∨ k = 8 by omega) with h | rfl | ⟨h, h2⟩ | rfl
  · exact read_num k hk.1 h l w hW hl
  · exact read_text l w hl
  · exact read_nums k h h2 l w hW hl
  · exact read_texts l w hl
end Go.Proofs.YthfoffcfbfmajaaGreatDoor

/- cell: Parse. -/
namespace Go.Proofs.YthfoffcfbfmajaaGreatDoor
open Go.RowKit
set_option linter.unusedVariables false

theorem box0 (w : World) : St Zf [BlkA w.heap.size 25 #[.int .i64 0, .int .i64 0, .string ⟨#[]⟩, .slice none 0 0, .slice none 0 0]] w (w.alloc (.cells #[.int .i64 0, .int .i64 0, .string ⟨#[]⟩, .slice none 0 0, .slice none 0 0] 25)) :=
  (St.start Zf w).newBlk 25 _
theorem NewP.nought {E : Int} {w w' : World} {L0 : List Ass} (h : St Zf L0 w w') : NewP (noneV, E) w (.returned (.tuple #[.agg #[.int .i64 0, .int .i64 0, .string ⟨#[]⟩, .slice none 0 0, .slice none 0 0], .int .i64 E])) w' :=
  ⟨none, 0, none, 0, rfl, St.nilOl (l := [_]) (St.nilOl (l := []) h.none_of svl 9) ivl 2⟩
/-- what reads of the first two objects is a value -/
theorem vr_of {w0 w : World} {l : List Ass} {v : Vv} {A A' : Option Addr} {c c' : Nat} (h : St Zf (OlA ivl 2 (.slice A v.ns.length c) v.ns :: OlA svl 9 (.slice A' v.ts.length c') v.ts :: l) w0 w) (hv : Vok v) : VR w w.heap.size v (vagg v A c A' c') :=
  ⟨A, c, A', c', rfl, h.ol.reads.2.1, h.swap.ol.reads.2.1, hv⟩
set_option maxRecDepth 100000 in
set_option maxHeartbeats 1000000 in
theorem parse_miss (l : Bs) (w : World) (hW : CeW w) (hl : l.length ≤ 1073741824) (hc : cutK l = (0, [], 220)) : Calls Tryz.prog 14 #[.string (mkS l)] w (NewP (parseV l) w) := by
  have HB := Lib.hid (box0 w)
  have HC := Lib.hid (cutKind_any (mkS l) _ (hW.below HB.out.bel (Nat.le_refl _)).beg)
  unfold Cut3 at HC
  rw [lS_mk, hc] at HC
  rw [parseV_miss hc]
  generalize mkS l = S at HC ⊢
  clear hW hl hc
  obtain ⟨N, hN⟩ : ∃ N, N = w.heap.size := ⟨_, rfl⟩
  go_enter Tryz.func14, Tryz.ntmps14
  go_wp2_with fail
  rw [← hN] at HB ⊢
  refine HC.out.mono ?_
  rintro e w1 ⟨rfl, hb1⟩
  have H1 := Lib.hid (HB.out.below hb1)
  obtain ⟨⟨d0, d1, d2, d3, d4⟩, g0, l1⟩ := blk_facts H1.out
  have G0 := g0 0
  have G1 := g0 1
  have G2 := g0 2
  have G3 := g0 3
  have G4 := g0 4
  clear hb1 hN HB HC
  go_wp2_with fail
  have H3 := ((((H1.out.setBlk 0 (.int .i64 0)).setBlk 1 (.int .i64 0)).setBlk 2 (.string ⟨#[]⟩)).setBlk 3 (.slice none 0 0)).setBlk 4 (.slice none 0 0)
  simp only [List.setIfInBounds_toArray, List.set_cons_zero, List.set_cons_succ] at H3
  refine bodyPost_ret (results_agg_tmp rfl _ _ N 25 _ _ rfl H3.blk Tryz.underlying25 rfl (by kernel_rfl)) rfl ?_
  exact NewP.nought H3
set_option maxRecDepth 100000 in
set_option maxHeartbeats 1000000 in
theorem parse_hit (k : Int) (r l : Bs) (w : World) (hW : CeW w) (hl : l.length ≤ 1073741824) (hk : 1 ≤ k ∧ k ≤ 8) (he : l = begB k ++ r) (hc : cutK l = (k, r, 0)) : Calls Tryz.prog 14 #[.string (mkS l)] w (NewP (parseV l) w) := by
  have HB := Lib.hid (box0 w)
  have hW1 := hW.below HB.out.bel (Nat.le_refl _)
  have HC := Lib.hid (cutKind_any (mkS l) _ hW1.beg)
  unfold Cut3 at HC
  rw [lS_mk, hc] at HC
  have hrl : r.length ≤ 1073741824 := by rw [he, List.length_append] at hl; omega
  rw [parseV_at hc]
  have HR : Hid (∀ w', Below w.heap.size w w' → Calls Tryz.prog 22 #[.int .i64 k, .string (mkS r)] w' (NewP (readV k r) w')) := Lib.hid fun w' hb => read_any hk r w' (hW.below hb (Nat.le_refl _)) hrl
  have hok := readV_ok hk r hrl
  generalize mkS l = S at HC ⊢
  generalize mkS r = R at HC HR
  obtain ⟨v, hv⟩ : ∃ v, v = (readV k r).1 := ⟨_, rfl⟩
  obtain ⟨E, hE⟩ : ∃ E, E = (readV k r).2 := ⟨_, rfl⟩
  have hp : readV k r = (v, E) := by rw [hv, hE]
  rw [hp] at HR hok ⊢
  have HOK := Lib.hid hok
  unfold NewP at HR
  simp only at HR
  clear hW hl hc he hrl hv hE hp hok hW1
  obtain ⟨N, hN⟩ : ∃ N, N = w.heap.size := ⟨_, rfl⟩
  have HBB := Lib.hid HB.out.bel
  by_cases hE0 : E = 0
  · subst hE0
    rw [if_pos rfl]
    have HCK := Lib.hid fun x B w' h1 h2 => Check_any v x B w' h1 h2
    obtain ⟨C, hC⟩ : ∃ C, C = chk v := ⟨_, rfl⟩
    rw [← hC] at HCK ⊢
    clear hC
    obtain ⟨vk, vn, vs, vns, vts⟩ := v
    unfold vagg at HR
    simp only at HR
    by_cases hC0 : C = 0
    · subst hC0
      rw [if_pos rfl]
      go_enter Tryz.func14, Tryz.ntmps14
      go_wp2_with fail
      rw [← hN] at HB ⊢
      refine HC.out.mono ?_
      rintro e w1 ⟨rfl, hb1⟩
      have H1 := Lib.hid (HB.out.below hb1)
      have HR1 := Lib.hid (HR.out w1 H1.out.bel)
      clear hb1 HB HC HR HBB hN
      go_wp2_with fail
      refine HR1.out.mono ?_
      rintro e w2 ⟨A, c, A', c', rfl, h2⟩
      have H2' := St.addStM H1.out h2
      simp only [List.cons_append, List.nil_append] at H2'
      have H2 := Lib.hid H2'
      clear H2'
      have HV := Lib.hid (vr_of (v := ⟨vk, vn, vs, vns, vts⟩) h2 HOK.out)
      unfold vagg at HV
      clear h2 H1 HR1
      go_wp2_with fail
      have H3 := Lib.hid (H2.out.newBlk 25 #[.int .i64 vk, .int .i64 vn, .string vs, .slice A vns.length c, .slice A' vts.length c'])
      have HCK2 := Lib.hid (HCK.out _ _ _ (HV.out.alloc (Nat.le_refl _) (.cells #[.int .i64 vk, .int .i64 vn, .string vs, .slice A vns.length c, .slice A' vts.length c'] 25)) (by rw [World.size_alloc]; exact Nat.le_succ _))
      clear HCK HV H2
      refine HCK2.out.mono ?_
      rintro e w3 ⟨rfl, hb3⟩
      have H4 := Lib.hid (H3.out.below hb3)
      clear hb3 H3 HCK2
      obtain ⟨⟨c0, c1, c2, c3, c4⟩, -, -⟩ := blk_facts H4.out
      obtain ⟨⟨d0, d1, d2, d3, d4⟩, g0, l1⟩ := blk_facts H4.out.bring3
      have G0 := g0 0
      have G1 := g0 1
      have G2 := g0 2
      have G3 := g0 3
      have G4 := g0 4
      go_wp2_with fail
      have H5 := ((((H4.out.bring3.setBlk 0 (.int .i64 vk)).setBlk 1 (.int .i64 vn)).setBlk 2 (.string vs)).setBlk 3 (.slice A vns.length c)).setBlk 4 (.slice A' vts.length c')
      simp only [List.setIfInBounds_toArray, List.set_cons_zero, List.set_cons_succ] at H5
      refine bodyPost_ret (results_agg_tmp rfl _ _ N 25 _ _ rfl H5.blk Tryz.underlying25 rfl (by kernel_rfl)) rfl ?_
      exact ⟨A, c, A', c', rfl, H5.drop.drop⟩
    · have hne : (C != 0) = true := by simpa using hC0
      rw [if_neg hC0]
      clear hC0
      go_enter Tryz.func14, Tryz.ntmps14
      go_wp2_with fail
      rw [← hN] at HB ⊢
      refine HC.out.mono ?_
      rintro e w1 ⟨rfl, hb1⟩
      have H1 := Lib.hid (HB.out.below hb1)
      have HR1 := Lib.hid (HR.out w1 H1.out.bel)
      clear hb1 HB HC HR HBB hN
      go_wp2_with fail
      refine HR1.out.mono ?_
      rintro e w2 ⟨A, c, A', c', rfl, h2⟩
      have H2' := St.addStM H1.out h2
      simp only [List.cons_append, List.nil_append] at H2'
      have H2 := Lib.hid H2'
      clear H2'
      have HV := Lib.hid (vr_of (v := ⟨vk, vn, vs, vns, vts⟩) h2 HOK.out)
      unfold vagg at HV
      clear h2 H1 HR1
      go_wp2_with fail
      have H3 := Lib.hid (H2.out.newBlk 25 #[.int .i64 vk, .int .i64 vn, .string vs, .slice A vns.length c, .slice A' vts.length c'])
      have HCK2 := Lib.hid (HCK.out _ _ _ (HV.out.alloc (Nat.le_refl _) (.cells #[.int .i64 vk, .int .i64 vn, .string vs, .slice A vns.length c, .slice A' vts.length c'] 25)) (by rw [World.size_alloc]; exact Nat.le_succ _))
      clear HCK HV H2
      refine HCK2.out.mono ?_
      rintro e w3 ⟨rfl, hb3⟩
      have H4 := Lib.hid (H3.out.below hb3)
      clear hb3 H3 HCK2
      obtain ⟨⟨c0, c1, c2, c3, c4⟩, -, -⟩ := blk_facts H4.out
      obtain ⟨⟨d0, d1, d2, d3, d4⟩, g0, l1⟩ := blk_facts H4.out.bring3
      have G0 := g0 0
      have G1 := g0 1
      have G2 := g0 2
      have G3 := g0 3
      have G4 := g0 4
      go_wp2_with fail
      have H5 := ((((H4.out.bring3.setBlk 0 (.int .i64 0)).setBlk 1 (.int .i64 0)).setBlk 2 (.string ⟨#[]⟩)).setBlk 3 (.slice none 0 0)).setBlk 4 (.slice none 0 0)
      simp only [List.setIfInBounds_toArray, List.set_cons_zero, List.set_cons_succ] at H5
      refine bodyPost_ret (results_agg_tmp rfl _ _ N 25 _ _ rfl H5.blk Tryz.underlying25 rfl (by kernel_rfl)) rfl ?_
      exact NewP.nought H5
  · have hne : (E != 0) = true := by simpa using hE0
    rw [if_neg hE0]
    obtain ⟨vk, vn, vs, vns, vts⟩ := v
    unfold vagg at HR
    simp only at HR
    clear hE0
    go_enter Tryz.func14, Tryz.ntmps14
    go_wp2_with fail
    rw [← hN] at HB ⊢
    refine HC.out.mono ?_
    rintro e w1 ⟨rfl, hb1⟩
    have H1 := Lib.hid (HB.out.below hb1)
    have HR1 := Lib.hid (HR.out w1 H1.out.bel)
    clear hb1 HB HC HR HBB hN
    go_wp2_with fail
    refine HR1.out.mono ?_
    rintro e w2 ⟨A, c, A', c', rfl, h2⟩
    have H2' := St.addStM H1.out h2
    simp only [List.cons_append, List.nil_append] at H2'
    have H2 := Lib.hid H2'.bring2
    clear H2'
    obtain ⟨⟨d0, d1, d2, d3, d4⟩, g0, l1⟩ := blk_facts H2.out
    have G0 := g0 0
    have G1 := g0 1
    have G2 := g0 2
    have G3 := g0 3
    have G4 := g0 4
    clear h2 H1 HR1
    go_wp2_with fail
    have H3 := ((((H2.out.setBlk 0 (.int .i64 0)).setBlk 1 (.int .i64 0)).setBlk 2 (.string ⟨#[]⟩)).setBlk 3 (.slice none 0 0)).setBlk 4 (.slice none 0 0)
    simp only [List.setIfInBounds_toArray, List.set_cons_zero, List.set_cons_succ] at H3
    have H4 := H3.alloc (.cells #[.int .i64 vk, .int .i64 vn, .string vs, .slice A vns.length c, .slice A' vts.length c'] 25)
    refine bodyPost_ret (results_agg_tmp rfl _ _ N 25 _ _ rfl H4.blk Tryz.underlying25 rfl (by kernel_rfl)) rfl ?_
    exact NewP.nought H4
theorem Parse_any (l : Bs) (w : World) (hW : CeW w) (hl : l.length ≤ 1073741824) : Calls Tryz.prog 14 #[.string (mkS l)] w (NewP (parseV l) w) := by
  rcases cutK_cases l with ⟨k, r, hk, he, hc⟩ | ⟨-, hc⟩
  · exact parse_hit k r l w hW hl hk he hc
  · exact parse_miss l w hW hl hc
end Go.Proofs.YthfoffcfbfmajaaGreatDoor
