/- cell: cutKind, readNumber, readNumbers. -/
import Derived.Test.YthfoffcfbfmajaaGreatDoorCeFmt
import Derived.Test.YthfoffcfbfmajaaGreatDoorCsStr
import Derived.Test.YthfoffcfbfmajaaGreatDoorValCopy
namespace Go.Proofs.YthfoffcfbfmajaaGreatDoor
open Go.RowKit
set_option linter.unusedVariables false

def Cut3 (l : Bs) (w : World) (e : Ending) (w' : World) : Prop := e = .returned (.tuple #[.int .i64 (cutK l).1, .string (mkS (cutK l).2.1), .int .i64 (cutK l).2.2]) ∧ Below w.heap.size w w'
theorem Cut3.hit {l r : Bs} {k : Int} {w w' : World} (h : cutK l = (k, r, 0)) (hb : Below w.heap.size w w') : Cut3 l w (.returned (.tuple #[.int .i64 k, .string (mkS r), .int .i64 0])) w' := by
  unfold Cut3
  rw [h]
  exact ⟨rfl, hb⟩
theorem Cut3.miss {l : Bs} {w w' : World} (h : cutK l = (0, [], 220)) (hb : Below w.heap.size w w') : Cut3 l w (.returned (.tuple #[.int .i64 0, .string ⟨#[]⟩, .int .i64 220])) w' := by
  unfold Cut3
  rw [h]
  exact ⟨rfl, hb⟩
set_option maxHeartbeats 1000000 in
theorem cutKind_any (s : ByteArray) (w : World) (hW : BegT w) : Calls Tryz.prog 21 #[.string s] w (Cut3 (lS s) w) := by
  have HW := Lib.hid hW
  have HC : Hid (∀ (k : Nat) (W : World), Calls Tryz.prog 34 #[.string s, .string (mkS (begB k))] W fun e w' => e = .returned (.tuple #[.string (mkS (Lib.trimPrefix (lS s) (begB k))), .bool (Lib.hasPrefix (lS s) (begB k))]) ∧ W = w') := Lib.hid fun k W =>
    (Tryz.strings_CutPrefix s (mkS (begB k)) W).mono fun e w' ⟨he, hw⟩ => ⟨he, hw.symm⟩
  have HH : Hid (∀ k : Nat, 1 ≤ k → k ≤ 8 → Lib.hasPrefix (lS s) (begB k) = true → Cut3 (lS s) w (.returned (.tuple #[.int .i64 k, .string (mkS (Lib.trimPrefix (lS s) (begB k))), .int .i64 0])) w) := Lib.hid fun k h1 h2 h => Cut3.hit (cutK_hit ⟨by omega, by omega⟩ h) (Below.refl _ _)
  have HM : Hid ((∀ j : Int, 1 ≤ j → j < 9 → Lib.hasPrefix (lS s) (begB j) = false) → Cut3 (lS s) w (.returned (.tuple #[.int .i64 0, .string ⟨#[]⟩, .int .i64 220])) w) := Lib.hid fun h => Cut3.miss (cutK_miss fun k h1 h2 => h k h1 (by omega)) (Below.refl _ _)
  clear hW
  go_enter Tryz.func21, Tryz.ntmps21
  go_wp2
  go_loopw [5] (fun i wr => ∃ k : Nat, 1 ≤ k ∧ k ≤ 9 ∧ i = .int .i64 k ∧ Hid (wr = w) ∧ Hid (∀ j : Int, 1 ≤ j → j < k → Lib.hasPrefix (lS s) (begB j) = false)) (fun i _ => 9 - (intOf i).toNat)
  case atStart => exact ⟨1, Nat.le_refl _, by decide, rfl, Lib.hid rfl, Lib.hid fun j h1 h2 => by omega⟩
  case round =>
    obtain ⟨k, hk1, hk9, rfl, HE, HN⟩ := hrel
    obtain rfl := HE.out
    clear HE
    by_cases hlt : k ≤ 8
    · have hcell := HW.out k hk1 hlt
      have hk : (0 : Int) ≤ (k : Int) ∧ (k : Int) < 9 := by omega
      have hkl : (k : Int) < 9 := hk.2
      have hle : decide ((k : Int) ≤ 8) = true := decide_eq_true (by omega)
      have HCk := Lib.hid (HC.out k wr)
      obtain ⟨b, hb⟩ : ∃ b, b = Lib.hasPrefix (lS s) (begB k) := ⟨_, rfl⟩
      have HHk := Lib.hid (HH.out k hk1 hlt)
      rw [← hb] at HCk HHk
      have HB := Lib.hid hb
      generalize mkS (Lib.trimPrefix (lS s) (begB k)) = T at HCk HHk
      generalize mkS (begB (k : Int)) = S1 at HCk hcell
      clear hb
      cases b with
      | true =>
        have HF := Lib.hid (HHk.out rfl)
        clear HHk hk
        go_wp2_with fail
        refine HCk.out.mono ?_
        rintro e w1 ⟨rfl, rfl⟩
        go_wp2
        go_ret3
        exact HF.out
      | false =>
        have HN2 : Hid (∀ j : Int, 1 ≤ j → j < (k + 1 : Nat) → Lib.hasPrefix (lS s) (begB j) = false) := Lib.hid fun j h1 h2 => by
          by_cases h : j = k
          · rw [h]; exact HB.out.symm
          · exact HN.out j h1 (by omega)
        clear HHk hk
        go_wp2_with fail
        refine HCk.out.mono ?_
        rintro e w1 ⟨rfl, rfl⟩
        go_wp2
        go_roundw
        case rel => exact ⟨k + 1, by omega, by omega, by go_num, Lib.hid trivial, HN2⟩
        case measure => simp [intOf]; omega
    · have hk : k = 9 := by omega
      subst hk
      have HF := Lib.hid (HM.out HN.out)
      go_wp2
      go_ret3
      exact HF.out
def RdN (p : Int × Int) (w : World) (e : Ending) (w' : World) : Prop := e = .returned (.tuple #[.int .i64 p.1, .int .i64 p.2]) ∧ Below w.heap.size w w'
theorem i64Of_wrap {v : Nat} (h : v < 18446744073709551616) : i64Of v = wrap64 (v : Int) := by
  unfold i64Of wrap64
  split <;> omega
theorem ReadF.lt {l : Bs} {v : Nat} {c : Int} (h : ReadF l v c) : v < 18446744073709551616 := by
  rcases h with ⟨-, h, -⟩ | ⟨-, h, -⟩
  · exact h.1
  · rw [h]; decide
set_option maxHeartbeats 1000000 in
theorem readNumber_any (k : Int) (s : ByteArray) (w : World) (hT : Tabs w) (hs : s.size ≤ 140737488355328) :
    Calls Tryz.prog 38 #[.int .i64 k, .string s] w (RdN (numR k (lS s)) w) := by
  unfold RdN
  by_cases h2 : k = 2
  · have HF := Lib.hid (ParseInt_any s w hT hs)
    have e : numR k (lS s) = parseI s.data.toList := by unfold numR; rw [if_pos h2]; rfl
    rw [e]
    generalize (parseI s.data.toList).1 = n at HF ⊢
    generalize (parseI s.data.toList).2 = c at HF ⊢
    subst h2
    clear hT hs e
    go_enter Tryz.func38, Tryz.ntmps38
    go_wp2_with fail
    refine HF.out.mono ?_
    rintro e w1 ⟨rfl, hb⟩
    go_wp2
    go_ret2
    exact ⟨rfl, hb⟩
  · by_cases h3 : k = 3
    · have HF : Hid (Calls Tryz.prog 58 #[.string s] w fun e w' => ∃ v c : Int, e = .returned (.tuple #[.int .u64 v, .int .i64 c]) ∧ Hid (numR k (lS s) = (wrap64 v, c)) ∧ Below w.heap.size w w') := Lib.hid ((ParseFloat_any s w hT hs).mono (by
        rintro e w' ⟨v, c, rfl, hr, hb⟩
        refine ⟨v, c, rfl, Lib.hid ?_, hb⟩
        unfold numR
        rw [if_neg h2, if_pos h3]
        have hr2 : ReadF (lS s) v c := hr
        rw [rdF_eq hr2, i64Of_wrap hr.lt]))
      subst h3
      clear hT hs h2
      go_enter Tryz.func38, Tryz.ntmps38
      go_wp2_with fail
      refine HF.out.mono ?_
      rintro e w1 ⟨v, c, rfl, HR, hb⟩
      go_wp2
      go_ret2
      refine ⟨?_, hb⟩
      rw [HR.out]
      rfl
    · have hk2 : (k == 2) = false := beq_eq_false_iff_ne.2 h2
      have hk3 : (k == 3) = false := beq_eq_false_iff_ne.2 h3
      have key : ∀ t : Bs, (s.toList == t) = decide (lS s = t) := fun t => by
        rw [Lib.toList_data]
        show (lS s == t) = decide (lS s = t)
        by_cases h : lS s = t <;> simp [h]
      have h4 := key [116, 114, 117, 101]
      have h5 := key [102, 97, 108, 115, 101]
      have HN : Hid (numR k (lS s) = if lS s = [116, 114, 117, 101] then (1, 0) else if lS s = [102, 97, 108, 115, 101] then (0, 0) else (0, 220)) := Lib.hid (by unfold numR; rw [if_neg h2, if_neg h3])
      rw [HN.out]
      clear HN key hT hs h2 h3
      by_cases ht : lS s = [116, 114, 117, 101]
      · rw [if_pos ht]
        rw [decide_eq_true ht] at h4
        clear h5 ht
        go_enter Tryz.func38, Tryz.ntmps38
        go_wp2
        go_ret2
        exact ⟨rfl, Below.refl _ _⟩
      · rw [if_neg ht]
        rw [decide_eq_false ht] at h4
        by_cases hf : lS s = [102, 97, 108, 115, 101]
        · rw [if_pos hf]
          rw [decide_eq_true hf] at h5
          clear ht hf
          go_enter Tryz.func38, Tryz.ntmps38
          go_wp2
          go_ret2
          exact ⟨rfl, Below.refl _ _⟩
        · rw [if_neg hf]
          rw [decide_eq_false hf] at h5
          clear ht hf
          go_enter Tryz.func38, Tryz.ntmps38
          go_wp2
          go_ret2
          exact ⟨rfl, Below.refl _ _⟩

/-! ### lists of numbers -/
/-- what readNumbers answers -/
def RdNs (f : Bs → Int × Int) (l : Bs) (w : World) (e : Ending) (w' : World) : Prop := ∃ A c, e = .returned (.tuple #[.slice A (readN f l).1.length c, .int .i64 (readN f l).2]) ∧ St Zf [OlA ivl 2 (.slice A (readN f l).1.length c) (readN f l).1] w w'
/-- L is read, l' is left -/
def NumsAt (f : Bs → Int × Int) (l : Bs) (L : List Int) (l' : Bs) : Prop := readN f l = (if (readN f l').2 = 0 then (L ++ (readN f l').1, 0) else ([], (readN f l').2)) ∧ l'.length + L.length ≤ l.length
theorem NumsAt.start (f : Bs → Int × Int) (l : Bs) : NumsAt f l [] l := by
  refine ⟨?_, by simp⟩
  by_cases h : (readN f l).2 = 0
  · rw [if_pos h]; exact Prod.ext (by simp) h
  · rw [if_neg h]
    refine Prod.ext ?_ rfl
    by_cases hl : l = []
    · rw [hl, readN_nil]
    · by_cases h59 : (59 : UInt8) ∈ l
      · obtain ⟨a, b, e, ha⟩ := split59 h59
        rw [e, readN_step _ _ _ ha] at h ⊢
        by_cases h1 : (f a).2 = 0
        · rw [if_pos h1] at h ⊢
          by_cases h2 : (readN f b).2 = 0
          · rw [if_pos h2] at h; exact absurd rfl h
          · rw [if_neg h2]
        · rw [if_neg h1]
      · rw [readN_bad f hl h59]
theorem NumsAt.next {f : Bs → Int × Int} {l a b : Bs} {L : List Int} (h : NumsAt f l L (a ++ 59 :: b)) (ha : (59 : UInt8) ∉ a) (h0 : (f a).2 = 0) : NumsAt f l (L ++ [(f a).1]) b := by
  obtain ⟨h1, h2⟩ := h
  rw [readN_step _ _ _ ha, if_pos h0] at h1
  refine ⟨?_, by simp at h2 ⊢; omega⟩
  rw [h1]
  by_cases hb : (readN f b).2 = 0
  · rw [if_pos hb, if_pos rfl, if_pos hb]
    simp
  · rw [if_neg hb, if_neg hb, if_neg hb]
theorem NumsAt.bad {f : Bs → Int × Int} {l a b : Bs} {L : List Int} (h : NumsAt f l L (a ++ 59 :: b)) (ha : (59 : UInt8) ∉ a) (h0 : (f a).2 ≠ 0) : readN f l = ([], (f a).2) := by
  rw [h.1, readN_step _ _ _ ha, if_neg h0, if_neg h0]
theorem NumsAt.lost {f : Bs → Int × Int} {l l' : Bs} {L : List Int} (h : NumsAt f l L l') (hl : l' ≠ []) (h59 : (59 : UInt8) ∉ l') : readN f l = ([], 220) := by
  rw [h.1, readN_bad f hl h59]
  exact if_neg (by decide)
theorem NumsAt.done {f : Bs → Int × Int} {l : Bs} {L : List Int} (h : NumsAt f l L []) : readN f l = (L, 0) := by
  rw [h.1, readN_nil, if_pos rfl]
  simp
theorem RdNs.err {f : Bs → Int × Int} {l : Bs} {E : Int} {w w' : World} {L0 : List Ass} (he : readN f l = ([], E)) (h : St Zf L0 w w') [Stable (Sep L0)] : RdNs f l w (.returned (.tuple #[.slice none 0 0, .int .i64 E])) w' := by
  unfold RdNs
  rw [he]
  refine ⟨none, 0, rfl, St.nilOl (l := []) ?_ ivl 2⟩
  obtain ⟨F, _, h2, _⟩ := h
  exact ⟨fun _ => False, rfl, h2, fun _ h => h.elim⟩
theorem SCut_any (l : Bs) (w : World) (hM : MW w) (hl : l.length ≤ 1073741824) : Calls Tryz.prog 56 #[.string (mkS l), .string ⟨#[59]⟩] w fun e w' =>
    e = .returned (.tuple #[.string (mkS (Lib.cut l [59]).1), .string (mkS (Lib.cut l [59]).2.1), .bool (Lib.cut l [59]).2.2]) ∧ Below w.heap.size w w' := by
  obtain ⟨m, hm⟩ := hM
  exact (Tryz.strings_Cut (mkS l) ⟨#[59]⟩ m w (by rw [mkS_size]; omega) hm).mono fun e w' h => by
    obtain ⟨h1, n, rfl⟩ := h
    exact ⟨h1, below_drewN (Below.refl _ _) n⟩
theorem mkS_ne (l : Bs) : ((mkS l).toList == []) = decide (l = []) := by
  rw [Lib.toList_data]
  show (l == []) = _
  by_cases h : l = [] <;> simp [h]
set_option maxHeartbeats 1000000 in
theorem readNumbers_any (k : Int) (l : Bs) (w : World) (hW : CeW w) (hl : l.length ≤ 1073741824) :
    Calls Tryz.prog 37 #[.int .i64 k, .string (mkS l)] w (RdNs (numR k) l w) := by
  have HW := Lib.hid hW
  have HL := Lib.hid hl
  obtain ⟨j0, hj, hy0, hy1, hy2⟩ := info_parts i64_info
  clear hW hl
  go_enter Tryz.func37, Tryz.ntmps37
  go_wp2
  go_loopg [6, 7] (l.length + 1) (fun gk v r wr => ∃ (L : List Int) (l' : Bs) (A : Option Addr) (c : Nat), v = .slice A L.length c ∧ r = .string (mkS l') ∧ Hid (St Zf [OlA ivl 2 (.slice A L.length c) L] w wr) ∧ Hid (NumsAt (numR k) l L l' ∧ l'.length + 1 ≤ gk))
  case atStart => exact ⟨[], l, none, 0, rfl, rfl, Lib.hid ((St.start Zf w).nilOl ivl 2), Lib.hid ⟨NumsAt.start _ _, Nat.le_refl _⟩⟩
  case round =>
    obtain ⟨L, l', A, c, rfl, rfl, HS, HN⟩ := hrel
    have hne := mkS_ne l'
    by_cases h0 : l' = []
    · subst h0
      rw [decide_eq_true rfl] at hne
      have HF : Hid (RdNs (numR k) l w (.returned (.tuple #[.slice A L.length c, .int .i64 0])) wr) := Lib.hid (by
        unfold RdNs
        rw [HN.out.1.done]
        exact ⟨A, c, rfl, HS.out⟩)
      go_wp2
      go_ret2
      exact HF.out
    · rw [decide_eq_false h0] at hne
      have hl1 := HN.out.1.2
      have HC := Lib.hid (SCut_any l' wr (HW.out.mw.below HS.out.bel HW.out.mw.pos) (by have := HL.out; omega))
      by_cases h59 : (59 : UInt8) ∈ l'
      · obtain ⟨a, b, rfl, ha⟩ := split59 h59
        rw [cut_hit ha] at HC
        have HR : Hid (∀ w1, Below wr.heap.size wr w1 → Calls Tryz.prog 38 #[.int .i64 k, .string (mkS a)] w1 (RdN (numR k a) w1)) := Lib.hid fun w1 hb =>
          readNumber_any k (mkS a) w1 ((HW.out.tabs.below HS.out.bel (Nat.le_refl _)).below hb (Nat.le_refl _)) (by rw [mkS_size]; rw [List.length_append] at hl1; have := HL.out; omega)
        unfold RdN at HR
        have HNX := Lib.hid fun h => HN.out.1.next ha h
        have HBD := Lib.hid fun h => HN.out.1.bad ha h
        have hby : (L.length + 1) * 8 ≤ 140737488355328 := by have := HL.out; omega
        have hgk : b.length + 1 + 1 ≤ gk := by have := HN.out.2; simp at this; omega
        obtain ⟨gk, rfl⟩ : ∃ gk', gk = gk' + 1 := ⟨gk - 1, by omega⟩
        have HG : Hid (b.length + 1 ≤ gk) := Lib.hid (by omega)
        generalize (numR k a).1 = n at HR HNX HBD
        generalize (numR k a).2 = E at HR HNX HBD
        generalize mkS a = S1 at HC HR
        clear ha h59 h0 hl1 hgk
        by_cases hE : E = 0
        · subst hE
          have HN2 := Lib.hid (HNX.out rfl)
          clear HNX HBD HN
          go_wp2_with fail
          refine HC.out.mono ?_
          rintro e w1 ⟨rfl, hb1⟩
          have HS1 := Lib.hid (HS.out.below hb1)
          have HR1 := Lib.hid (HR.out _ hb1)
          clear hb1
          go_wp2_with fail
          refine HR1.out.mono ?_
          rintro e w2 ⟨rfl, hb2⟩
          have HS2 := Lib.hid (HS1.out.below hb2)
          clear hb2
          go_wp2_with (at_builtin; refine wpList_append_elemN _ rfl _ _ 22 rfl 0 2 j0 _ 8 Tryz.underlying22 hj hy0 hy1 hy2 rfl _ L (by rfl) HS2.out.ol n (ivl_ok n) _ rfl (by rfl) hby (by omega) (Nat.zero_le _) ?_; intro v7 w7 hown7 hg7 hat7; have h7 := HS2.out.grewOl hown7 hg7 hat7 (by simp); obtain ⟨O, hO⟩ : ∃ O, O = L ++ [n] := ⟨_, rfl⟩; rw [← hO] at hown7 h7 HN2; obtain ⟨A7, c7, rfl, -, -, -, -⟩ := hown7.form; have H7 := Lib.hid h7; clear hown7 hg7 hat7 h7 hO)
          go_wp2
          go_roundg gk
          case measure => omega
          case rel => exact ⟨O, b, A7, c7, rfl, rfl, H7, Lib.hid ⟨HN2.out, HG.out⟩⟩
        · have HF : Hid (∀ w', Below wr.heap.size wr w' → RdNs (numR k) l w (.returned (.tuple #[.slice none 0 0, .int .i64 E])) w') := Lib.hid fun w' hb => RdNs.err (HBD.out hE) (HS.out.below hb)
          have hne2 : (E != 0) = true := by simpa using hE
          clear HNX HBD HN hE
          go_wp2_with fail
          refine HC.out.mono ?_
          rintro e w1 ⟨rfl, hb1⟩
          have HB1 := Lib.hid hb1
          have HR1 := Lib.hid (HR.out _ hb1)
          clear hb1
          go_wp2_with fail
          refine HR1.out.mono ?_
          rintro e w2 ⟨rfl, hb2⟩
          have HF2 := Lib.hid (HF.out _ (HB1.out.trans (hb2.mono HB1.out.size)))
          clear hb2
          go_wp2
          go_ret2
          exact HF2.out
      · rw [cut_miss h59] at HC
        have HF : Hid (∀ w', Below wr.heap.size wr w' → RdNs (numR k) l w (.returned (.tuple #[.slice none 0 0, .int .i64 220])) w') := Lib.hid fun w' hb => RdNs.err (HN.out.1.lost h0 h59) (HS.out.below hb)
        clear HN h0 h59 hl1
        go_wp2_with fail
        refine HC.out.mono ?_
        rintro e w1 ⟨rfl, hb1⟩
        have HF2 := Lib.hid (HF.out _ hb1)
        clear hb1
        go_wp2
        go_ret2
        exact HF2.out
end Go.Proofs.YthfoffcfbfmajaaGreatDoor
