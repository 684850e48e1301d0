/- cell: values as forms, as functions on lists of bytes: what is printed is read again, what is read has one form. No function of the program is named here. -/
import Derived.Test.YthfoffcfbfmajaaGreatDoorCeNum
import Derived.Test.YthfoffcfbfmajaaGreatDoorValCheckA
namespace Go.Proofs.YthfoffcfbfmajaaGreatDoor
open Go.RowKit
set_option linter.unusedVariables false

/-- what the form of the kind k begins with -/
def begB (k : Int) : Bs := if k = 1 then [98, 58] else if k = 2 then [105, 58] else if k = 3 then [102, 58] else if k = 4 then [115, 58] else if k = 5 then [98, 91, 93, 58] else if k = 6 then [105, 91, 93, 58] else if k = 7 then [102, 91, 93, 58] else if k = 8 then [115, 91, 93, 58] else []
theorem kinds8 {k : Int} (h1 : 1 ≤ k) (h2 : k ≤ 8) : k = 1 ∨ k = 2 ∨ k = 3 ∨ k = 4 ∨ k = 5 ∨ k = 6 ∨ k = 7 ∨ k = 8 := by omega
theorem begB_len (k : Int) : (begB k).length ≤ 4 := by
  unfold begB
  repeat' split
  all_goals decide
theorem begB_four {k : Int} (h1 : 4 < k) (h2 : k ≤ 8) : (begB k).length = 4 := by
  rcases (show k = 5 ∨ k = 6 ∨ k = 7 ∨ k = 8 by omega) with rfl | rfl | rfl | rfl <;> rfl
theorem hasPrefix_self (p r : Bs) : Lib.hasPrefix (p ++ r) p = true := by
  unfold Lib.hasPrefix
  rw [List.isPrefixOf_iff_prefix]
  exact List.prefix_append p r
theorem trimPrefix_self (p r : Bs) : Lib.trimPrefix (p ++ r) p = r := by
  unfold Lib.trimPrefix
  rw [if_pos (hasPrefix_self p r), List.drop_left' rfl]
theorem hasPrefix_app {l p : Bs} (h : Lib.hasPrefix l p = true) : l = p ++ Lib.trimPrefix l p := by
  have h2 := h
  unfold Lib.hasPrefix at h2
  rw [List.isPrefixOf_iff_prefix] at h2
  obtain ⟨r, rfl⟩ := h2
  rw [trimPrefix_self]
theorem begB_one {j k : Int} (hj : 1 ≤ j ∧ j ≤ 8) (hk : 1 ≤ k ∧ k ≤ 8) (r : Bs) (h : Lib.hasPrefix (begB k ++ r) (begB j) = true) : j = k := by
  rcases kinds8 hj.1 hj.2 with rfl | rfl | rfl | rfl | rfl | rfl | rfl | rfl <;>
    rcases kinds8 hk.1 hk.2 with rfl | rfl | rfl | rfl | rfl | rfl | rfl | rfl <;> first | rfl | (simp [begB, Lib.hasPrefix, List.isPrefixOf] at h)
/-- the kind with which a form begins, what follows, the error's number -/
def cutK (l : Bs) : Int × Bs × Int :=
  if Lib.hasPrefix l (begB 1) then (1, Lib.trimPrefix l (begB 1), 0) else if Lib.hasPrefix l (begB 2) then (2, Lib.trimPrefix l (begB 2), 0)
  else if Lib.hasPrefix l (begB 3) then (3, Lib.trimPrefix l (begB 3), 0) else if Lib.hasPrefix l (begB 4) then (4, Lib.trimPrefix l (begB 4), 0)
  else if Lib.hasPrefix l (begB 5) then (5, Lib.trimPrefix l (begB 5), 0) else if Lib.hasPrefix l (begB 6) then (6, Lib.trimPrefix l (begB 6), 0)
  else if Lib.hasPrefix l (begB 7) then (7, Lib.trimPrefix l (begB 7), 0) else if Lib.hasPrefix l (begB 8) then (8, Lib.trimPrefix l (begB 8), 0)
  else (0, [], 220)
theorem cutK_hit {l : Bs} {k : Int} (hk : 1 ≤ k ∧ k ≤ 8) (h : Lib.hasPrefix l (begB k) = true) : cutK l = (k, Lib.trimPrefix l (begB k), 0) := by
  have hn : ∀ j : Int, 1 ≤ j ∧ j ≤ 8 → j ≠ k → ¬ Lib.hasPrefix l (begB j) = true := fun j hj hne hp => by
    rw [hasPrefix_app h] at hp
    exact hne (begB_one hj hk _ hp)
  unfold cutK
  rcases kinds8 hk.1 hk.2 with rfl | rfl | rfl | rfl | rfl | rfl | rfl | rfl
  · rw [if_pos h]
  · rw [if_neg (hn 1 (by decide) (by decide)), if_pos h]
  · rw [if_neg (hn 1 (by decide) (by decide)), if_neg (hn 2 (by decide) (by decide)), if_pos h]
  · rw [if_neg (hn 1 (by decide) (by decide)), if_neg (hn 2 (by decide) (by decide)), if_neg (hn 3 (by decide) (by decide)), if_pos h]
  · rw [if_neg (hn 1 (by decide) (by decide)), if_neg (hn 2 (by decide) (by decide)), if_neg (hn 3 (by decide) (by decide)), if_neg (hn 4 (by decide) (by decide)), if_pos h]
  · rw [if_neg (hn 1 (by decide) (by decide)), if_neg (hn 2 (by decide) (by decide)), if_neg (hn 3 (by decide) (by decide)), if_neg (hn 4 (by decide) (by decide)), if_neg (hn 5 (by decide) (by decide)), if_pos h]
  · rw [if_neg (hn 1 (by decide) (by decide)), if_neg (hn 2 (by decide) (by decide)), if_neg (hn 3 (by decide) (by decide)), if_neg (hn 4 (by decide) (by decide)), if_neg (hn 5 (by decide) (by decide)), if_neg (hn 6 (by decide) (by decide)), if_pos h]
  · rw [if_neg (hn 1 (by decide) (by decide)), if_neg (hn 2 (by decide) (by decide)), if_neg (hn 3 (by decide) (by decide)), if_neg (hn 4 (by decide) (by decide)), if_neg (hn 5 (by decide) (by decide)), if_neg (hn 6 (by decide) (by decide)), if_neg (hn 7 (by decide) (by decide)), if_pos h]
theorem cutK_miss {l : Bs} (h : ∀ k : Int, 1 ≤ k → k ≤ 8 → Lib.hasPrefix l (begB k) = false) : cutK l = (0, [], 220) := by
  unfold cutK
  rw [h 1 (by decide) (by decide), h 2 (by decide) (by decide), h 3 (by decide) (by decide), h 4 (by decide) (by decide), h 5 (by decide) (by decide), h 6 (by decide) (by decide), h 7 (by decide) (by decide), h 8 (by decide) (by decide)]
  simp
theorem cutK_cases (l : Bs) : (∃ k r, (1 ≤ k ∧ k ≤ 8) ∧ l = begB k ++ r ∧ cutK l = (k, r, 0)) ∨ ((∀ k : Int, 1 ≤ k → k ≤ 8 → Lib.hasPrefix l (begB k) = false) ∧ cutK l = (0, [], 220)) := by
  by_cases h : ∃ k : Int, (1 ≤ k ∧ k ≤ 8) ∧ Lib.hasPrefix l (begB k) = true
  · obtain ⟨k, hk, h⟩ := h
    exact .inl ⟨k, Lib.trimPrefix l (begB k), hk, hasPrefix_app h, cutK_hit hk h⟩
  · have h2 : ∀ k : Int, 1 ≤ k → k ≤ 8 → Lib.hasPrefix l (begB k) = false := fun k h1 h2 => Bool.eq_false_iff.2 fun hp => h ⟨k, ⟨h1, h2⟩, hp⟩
    exact .inr ⟨h2, cutK_miss h2⟩
theorem cutK_back {k : Int} (hk : 1 ≤ k ∧ k ≤ 8) (r : Bs) : cutK (begB k ++ r) = (k, r, 0) := by
  rw [cutK_hit hk (hasPrefix_self _ _), trimPrefix_self]

/-- a value's form, without its beginning -/
def fmtV (v : Vv) : Bs := if v.k = 4 then lS v.s else if v.k = 8 then formsT (v.ts.map lS) else if 4 < v.k then formsN (numF (v.k - 4)) v.ns else numF v.k v.n
/-- what Print gives -/
def printV (v : Vv) : Bs × Int := if chk v = 0 then (begB v.k ++ fmtV v, 0) else ([], chk v)
theorem printV_ok {v : Vv} (h : chk v = 0) : printV v = (begB v.k ++ fmtV v, 0) := if_pos h
theorem printV_no {v : Vv} (h : chk v ≠ 0) : printV v = ([], chk v) := if_neg h
def noneV : Vv := ⟨0, 0, mkS [], [], []⟩
/-- the value that is read behind the beginning, and the error's number -/
noncomputable def readV (k : Int) (l : Bs) : Vv × Int :=
  if k = 4 then (⟨4, 0, mkS l, [], []⟩, 0) else if k = 8 then (match readT l with | some L => (⟨8, 0, mkS [], [], L.map mkS⟩, 0) | none => (⟨8, 0, mkS [], [], []⟩, 220))
  else if 4 < k then (⟨k, 0, mkS [], (readN (numR (k - 4)) l).1, []⟩, (readN (numR (k - 4)) l).2) else (⟨k, (numR k l).1, mkS [], [], []⟩, (numR k l).2)
theorem readV_text (l : Bs) : readV 4 l = (⟨4, 0, mkS l, [], []⟩, 0) := rfl
theorem readV_texts {l : Bs} {L : List Bs} (h : readT l = some L) : readV 8 l = (⟨8, 0, mkS [], [], L.map mkS⟩, 0) := by
  unfold readV
  rw [if_neg (by decide), if_pos rfl, h]
theorem readV_texts_no {l : Bs} (h : readT l = none) : readV 8 l = (⟨8, 0, mkS [], [], []⟩, 220) := by
  unfold readV
  rw [if_neg (by decide), if_pos rfl, h]
theorem readV_nums {k : Int} (h1 : 4 < k) (h2 : k < 8) (l : Bs) : readV k l = (⟨k, 0, mkS [], (readN (numR (k - 4)) l).1, []⟩, (readN (numR (k - 4)) l).2) := by
  unfold readV
  rw [if_neg (by omega), if_neg (by omega), if_pos h1]
theorem readV_num {k : Int} (h2 : k < 4) (l : Bs) : readV k l = (⟨k, (numR k l).1, mkS [], [], []⟩, (numR k l).2) := by
  unfold readV
  rw [if_neg (by omega), if_neg (by omega), if_neg (by omega)]
/-- the value that a form is, and the error's number -/
noncomputable def parseV (l : Bs) : Vv × Int :=
  if (cutK l).2.2 = 0 then (if (readV (cutK l).1 (cutK l).2.1).2 = 0 then (if chk (readV (cutK l).1 (cutK l).2.1).1 = 0 then ((readV (cutK l).1 (cutK l).2.1).1, 0) else (noneV, chk (readV (cutK l).1 (cutK l).2.1).1))
    else (noneV, (readV (cutK l).1 (cutK l).2.1).2)) else (noneV, (cutK l).2.2)
theorem parseV_at {l r : Bs} {k : Int} (h : cutK l = (k, r, 0)) : parseV l = if (readV k r).2 = 0 then (if chk (readV k r).1 = 0 then ((readV k r).1, 0) else (noneV, chk (readV k r).1)) else (noneV, (readV k r).2) := by
  unfold parseV
  rw [h, if_pos rfl]
theorem parseV_miss {l : Bs} (h : cutK l = (0, [], 220)) : parseV l = (noneV, 220) := by
  unfold parseV
  rw [h]
  exact if_neg (by decide)
theorem parseV_err (l : Bs) (h : (parseV l).2 ≠ 0) : (parseV l).1 = noneV := by
  unfold parseV at h ⊢
  split
  · split
    · split
      · rename_i h1 h2 h3
        rw [if_pos h1, if_pos h2, if_pos h3] at h
        exact absurd rfl h
      · rfl
    · rfl
  · rfl

/-! ### there and back -/
theorem el_of {v : Vv} (h : chk v = 0) : (1 ≤ v.k ∧ v.k ≤ 8) ∧ ownB v = true ∧ v.ns.length + v.ts.length ≤ 40 ∧ el v = 0 := by
  by_cases hg : gk v.k = true
  · by_cases ho : ownB v = true
    · by_cases hl : 40 < v.ns.length + v.ts.length
      · rw [chk_list hg ho hl] at h; exact absurd h (by decide)
      · rw [chk_el hg ho hl] at h
        exact ⟨of_decide_eq_true hg, ho, by omega, h⟩
    · rw [chk_field hg (by simpa using ho)] at h; exact absurd h (by decide)
  · rw [chk_kind (by simpa using hg)] at h; exact absurd h (by decide)
theorem u64_bits (n : Int) : bitsOf n = u64 n := rfl
theorem canon_of {n : Int} (h : numW 3 n = 0) : canon (bitsOf n) := by
  have hb : nanBad n = false := by
    cases hn : nanBad n with
    | false => rfl
    | true => rw [numW_nan hn] at h; exact absurd h (by decide)
  have hb' : ¬ (u64 n / 4503599627370496 % 2048 = 2047 ∧ u64 n % 4503599627370496 ≠ 0 ∧ u64 n ≠ 9221120237041090560) := by unfold nanBad at hb; exact of_decide_eq_false hb
  rw [u64_bits]
  have h1 := u64_lt n
  refine ⟨h1, ?_⟩
  by_cases h3 : u64 n = 9221120237041090560
  · exact .inr h3
  · refine .inl ?_
    generalize u64 n = b at hb' h1 h3
    omega
theorem num_back {k n : Int} (h0 : -9223372036854775808 ≤ n) (h1 : n ≤ 9223372036854775807) (hk : 1 ≤ k ∧ k < 4) (hw : numW k n = 0) : numR k (numF k n) = (n, 0) := by
  refine numR_back h0 h1 (fun h2 h3 => ?_) (fun h3 => ?_)
  · obtain rfl : k = 1 := by omega
    by_cases h4 : n = 0
    · exact .inl h4
    · by_cases h5 : n = 1
      · exact .inr h5
      · rw [numW_bool h4 h5] at hw; exact absurd hw (by decide)
  · subst h3
    exact canon_of hw
theorem fe_all {α : Type} {f : α → Int} {L : List α} (h : fe f L = 0) : ∀ x ∈ L, f x = 0 := by
  induction L with
  | nil => intro x hx; cases hx
  | cons y L ih =>
    unfold fe at h
    intro x hx
    by_cases hy : f y = 0
    · have h2 : fe f L = 0 := by
        simpa [hy] using h
      rcases List.mem_cons.1 hx with rfl | hx
      · exact hy
      · exact ih h2 x hx
    · simp [hy] at h
theorem mk_lSL : ∀ L : List ByteArray, (L.map lS).map mkS = L := by
  intro L
  induction L with
  | nil => rfl
  | cons s L ih => rw [List.map_cons, List.map_cons, ih, mk_lS]
theorem lS_mkL : ∀ L : List Bs, (L.map mkS).map lS = L := by
  intro L
  induction L with
  | nil => rfl
  | cons s L ih => rw [List.map_cons, List.map_cons, ih, lS_mk]
theorem empty_of {s : ByteArray} (h : s.toList = []) : s = mkS [] := str_inj (by rw [h, ByteArray.toList_eq]; rfl)
theorem readV_back {v : Vv} (hv : Vok v) (h : chk v = 0) : readV v.k (fmtV v) = (v, 0) := by
  obtain ⟨⟨k1, k2⟩, ho, hl, he⟩ := el_of h
  obtain ⟨o1, o2, o3, o4⟩ := own_true ho
  obtain ⟨k, n, s, ns, ts⟩ := v
  simp only at *
  rcases (show k < 4 ∨ k = 4 ∨ (4 < k ∧ k < 8) ∨ k = 8 by omega) with hk | hk | ⟨hk, hk2⟩ | hk
  · obtain rfl := o3 (.inl (by omega))
    obtain rfl := o4 (by omega)
    obtain rfl := empty_of (o2 (by omega))
    rw [el_lo hk] at he
    rw [readV_num hk]
    have e : fmtV ⟨k, n, mkS [], [], []⟩ = numF k n := by
      unfold fmtV
      rw [if_neg (by show ¬ k = 4; omega), if_neg (by show ¬ k = 8; omega), if_neg (by show ¬ 4 < k; omega)]
    rw [e, num_back hv.n1 hv.n2 ⟨k1, hk⟩ he]
  · subst hk
    obtain rfl := o3 (.inl (by omega))
    obtain rfl := o4 (by omega)
    obtain rfl := o1 (by omega)
    show readV 4 (lS s) = _
    rw [readV_text, mk_lS]
  · obtain rfl := o4 (by omega)
    obtain rfl := o1 (by omega)
    obtain rfl := empty_of (o2 (by omega))
    rw [el_nums hk rfl] at he
    have he2 : fe (numW (k - 4)) ns = 0 := he
    rw [readV_nums hk hk2]
    have e : fmtV ⟨k, 0, mkS [], ns, []⟩ = formsN (numF (k - 4)) ns := by
      unfold fmtV
      rw [if_neg (by show ¬ k = 4; omega), if_neg (by show ¬ k = 8; omega), if_pos hk]
    rw [e, readN_back _ _ _ fun m hm => ⟨num_back (hv.ns1 m hm).1 (hv.ns1 m hm).2 ⟨by omega, by omega⟩ (fe_all he2 m hm), no59_numF _ _⟩]
  · subst hk
    obtain rfl := o3 (.inr rfl)
    obtain rfl := o1 (by omega)
    obtain rfl := empty_of (o2 (by omega))
    have e : fmtV ⟨8, 0, mkS [], [], ts⟩ = formsT (ts.map lS) := rfl
    rw [e, readV_texts (readT_back _), mk_lSL]
theorem parseV_back {v : Vv} (hv : Vok v) (h : chk v = 0) : parseV (begB v.k ++ fmtV v) = (v, 0) := by
  rw [parseV_at (cutK_back (el_of h).1 _), readV_back hv h, if_pos rfl, if_pos h]

/-! ### one form -/
theorem readF_some (l : Bs) : ∃ v c, ReadF l v c := by
  by_cases h : ∃ b, b < 18446744073709551616 ∧ formF b = l
  · obtain ⟨b, hb, hl⟩ := h
    by_cases hc : b % 9223372036854775808 ≤ 9218868437227405312
    · exact ⟨b, 0, .inl ⟨rfl, ⟨hb, .inl hc⟩, hl⟩⟩
    · refine ⟨9221120237041090560, 0, .inl ⟨rfl, ⟨by decide, .inr rfl⟩, ?_⟩⟩
      rw [formF_nan_own, ← hl, formF_nan (by omega)]
  · exact ⟨0, 52, .inr ⟨rfl, rfl, fun b hb hl => h ⟨b, hb, hl⟩⟩⟩
theorem readV_one {k : Int} (hk : 1 ≤ k ∧ k ≤ 8) {l : Bs} (h : (readV k l).2 = 0) : fmtV (readV k l).1 = l ∧ (readV k l).1.k = k := by
  rcases (show k < 4 ∨ k = 4 ∨ (4 < k ∧ k < 8) ∨ k = 8 by omega) with hk1 | hk1 | ⟨hk1, hk2⟩ | hk1
  · rw [readV_num hk1] at h ⊢
    refine ⟨?_, rfl⟩
    unfold fmtV
    simp only
    rw [if_neg (by omega), if_neg (by omega), if_neg (by omega)]
    exact (numR_one (readF_some l) h).symm
  · subst hk1
    exact ⟨by rw [readV_text]; show lS (mkS l) = l; exact lS_mk l, rfl⟩
  · rw [readV_nums hk1 hk2] at h ⊢
    refine ⟨?_, rfl⟩
    unfold fmtV
    simp only
    rw [if_neg (by omega), if_neg (by omega), if_pos hk1]
    exact (readN_one _ _ (fun a ha => numR_one (readF_some a) ha) _ l _ rfl (Prod.ext rfl h)).symm
  · subst hk1
    cases hr : readT l with
    | none => rw [readV_texts_no hr] at h; exact absurd h (show ¬ (220 : Int) = 0 by decide)
    | some L =>
      rw [readV_texts hr]
      refine ⟨?_, rfl⟩
      show formsT ((L.map mkS).map lS) = l
      rw [lS_mkL]
      exact (readT_one _ l L rfl hr).symm
theorem parseV_one {l : Bs} (h : (parseV l).2 = 0) : chk (parseV l).1 = 0 ∧ printV (parseV l).1 = (l, 0) := by
  rcases cutK_cases l with ⟨k, r, hk, hl, hc⟩ | ⟨-, hc⟩
  · rw [parseV_at hc] at h ⊢
    by_cases h1 : (readV k r).2 = 0
    · rw [if_pos h1] at h ⊢
      by_cases h2 : chk (readV k r).1 = 0
      · rw [if_pos h2]
        obtain ⟨h3, h4⟩ := readV_one hk h1
        refine ⟨h2, ?_⟩
        rw [printV_ok h2, h3, h4, ← hl]
      · rw [if_neg h2] at h
        exact absurd h h2
    · rw [if_neg h1] at h
      exact absurd h h1
  · rw [parseV_miss hc] at h
    exact absurd h (show ¬ (220 : Int) = 0 by decide)

/-! ### one more -/
theorem fe_app {α : Type} (f : α → Int) (L : List α) (x : α) (h : fe f L = 0) : fe f (L ++ [x]) = f x := by
  induction L with
  | nil => unfold fe; by_cases hx : f x = 0 <;> simp [hx, fe]
  | cons y L ih =>
    unfold fe at h
    rw [List.cons_append]
    unfold fe
    by_cases hy : f y = 0
    · simp only [hy, ↓reduceIte] at h ⊢
      first | exact ih h | (rw [ih h])
    · simp [hy] at h
theorem no_text : (mkS []).toList = [] := by rw [ByteArray.toList_eq]; rfl
theorem fe_single {α : Type} (f : α → Int) (x : α) : fe f [x] = f x := fe_app f [] x rfl
theorem grow_nums {k : Int} (hk : 4 < k) (hk2 : k < 8) {ns : List Int} (x : Int) (h : chk ⟨k, 0, mkS [], ns, []⟩ = 0) (hl : ns.length < 40) : chk ⟨k, 0, mkS [], ns ++ [x], []⟩ = chk ⟨k, 0, mkS [], [x], []⟩ := by
  obtain ⟨h1, h2, h3, h4⟩ := el_of h
  have hg : gk k = true := gk_yes h1
  have ho : ∀ ms : List Int, ownB ⟨k, 0, mkS [], ms, []⟩ = true := fun ms => by
    unfold ownB
    refine decide_eq_true ⟨fun _ => rfl, fun _ => no_text, fun h => ?_, fun _ => rfl⟩
    rcases h with h | h
    · have h' : k < 5 := h
      omega
    · have h' : k = 8 := h
      omega
  rw [chk_el hg (ho _) (by simp; omega), chk_el hg (ho _) (by simp), el_nums (v := ⟨k, 0, mkS [], ns ++ [x], []⟩) hk rfl, el_nums (v := ⟨k, 0, mkS [], [x], []⟩) hk rfl]
  rw [el_nums (v := ⟨k, 0, mkS [], ns, []⟩) hk rfl] at h4
  show fe _ (ns ++ [x]) = fe _ [x]
  rw [fe_app _ _ _ h4, fe_single]
theorem grow_texts {ts : List ByteArray} (x : ByteArray) (h : chk ⟨8, 0, mkS [], [], ts⟩ = 0) (hl : ts.length < 40) : chk ⟨8, 0, mkS [], [], ts ++ [x]⟩ = chk ⟨8, 0, mkS [], [], [x]⟩ := by
  obtain ⟨h1, h2, h3, h4⟩ := el_of h
  have hg : gk 8 = true := gk_yes (by decide)
  have ho : ∀ ms : List ByteArray, ownB ⟨8, 0, mkS [], [], ms⟩ = true := fun ms => by
    unfold ownB
    exact decide_eq_true ⟨fun _ => rfl, fun _ => no_text, fun _ => rfl, fun h => absurd rfl h⟩
  rw [chk_el hg (ho _) (by simp; omega), chk_el hg (ho _) (by simp), el_eight (v := ⟨8, 0, mkS [], [], ts ++ [x]⟩) rfl rfl, el_eight (v := ⟨8, 0, mkS [], [], [x]⟩) rfl rfl]
  rw [el_eight (v := ⟨8, 0, mkS [], [], ts⟩) rfl rfl] at h4
  show fe _ (ts ++ [x]) = fe _ [x]
  rw [fe_app _ _ _ h4, fe_single]
theorem fmt_nums {k : Int} (hk : 4 < k) (hk2 : k < 8) (ns : List Int) : fmtV ⟨k, 0, mkS [], ns, []⟩ = formsN (numF (k - 4)) ns := by
  unfold fmtV
  rw [if_neg (by show ¬ k = 4; omega), if_neg (by show ¬ k = 8; omega), if_pos hk]
theorem print_nums {k : Int} (hk : 4 < k) (hk2 : k < 8) (ns : List Int) (x : Int) : fmtV ⟨k, 0, mkS [], ns ++ [x], []⟩ = fmtV ⟨k, 0, mkS [], ns, []⟩ ++ fmtV ⟨k, 0, mkS [], [x], []⟩ := by
  rw [fmt_nums hk hk2, fmt_nums hk hk2, fmt_nums hk hk2]
  simp [formsN]
theorem print_texts (ts : List ByteArray) (x : ByteArray) : fmtV ⟨8, 0, mkS [], [], ts ++ [x]⟩ = fmtV ⟨8, 0, mkS [], [], ts⟩ ++ fmtV ⟨8, 0, mkS [], [], [x]⟩ := by
  show formsT ((ts ++ [x]).map lS) = formsT (ts.map lS) ++ formsT ([x].map lS)
  simp [formsT]

/-! ### what is read is in reach -/
theorem i64Of_bd {b : Nat} (h : b < 18446744073709551616) : -9223372036854775808 ≤ i64Of b ∧ i64Of b ≤ 9223372036854775807 := by
  unfold i64Of
  split <;> omega
theorem rdF_bd (l : Bs) : (rdF l).1 < 18446744073709551616 := by
  obtain ⟨v, c, h⟩ := readF_some l
  rw [rdF_eq h]
  rcases h with ⟨-, h, -⟩ | ⟨-, h, -⟩
  · exact h.1
  · rw [h]; show (0 : Nat) < 18446744073709551616; decide
theorem numR_bd (k : Int) (l : Bs) : -9223372036854775808 ≤ (numR k l).1 ∧ (numR k l).1 ≤ 9223372036854775807 := by
  unfold numR
  split
  · exact parseI_bd l
  · split
    · exact i64Of_bd (rdF_bd l)
    · split
      · decide
      · split <;> decide
theorem readN_bd (f : Bs → Int × Int) (hf : ∀ a, -9223372036854775808 ≤ (f a).1 ∧ (f a).1 ≤ 9223372036854775807) : ∀ (n : Nat) (l : Bs), l.length = n → (∀ x ∈ (readN f l).1, -9223372036854775808 ≤ x ∧ x ≤ 9223372036854775807) ∧ (readN f l).1.length ≤ l.length := by
  intro n
  induction n using Nat.strongRecOn with
  | _ n ih =>
    intro l hn
    by_cases hl : l = []
    · subst hl
      rw [readN_nil]
      exact ⟨fun x hx => (by cases hx), Nat.le_refl _⟩
    · by_cases h59 : (59 : UInt8) ∈ l
      · obtain ⟨a, b, e, ha⟩ := split59 h59
        obtain ⟨h1, h2⟩ := ih b.length (by rw [← hn, e, List.length_append, List.length_cons]; omega) b rfl
        have h3 : b.length + 1 ≤ l.length := by rw [e, List.length_append, List.length_cons]; omega
        rw [e, readN_step _ _ _ ha, ← e]
        split
        · split
          · refine ⟨fun x hx => ?_, ?_⟩
            · rcases List.mem_cons.1 hx with rfl | hx
              · exact hf a
              · exact h1 x hx
            · simp only [List.length_cons]; omega
          · exact ⟨fun x hx => (by cases hx), Nat.zero_le _⟩
        · exact ⟨fun x hx => (by cases hx), Nat.zero_le _⟩
      · rw [readN_bad f hl h59]
        exact ⟨fun x hx => (by cases hx), Nat.zero_le _⟩
theorem readT_bd : ∀ (n : Nat) (l : Bs) (L : List Bs), l.length = n → readT l = some L → (∀ t ∈ L, t.length ≤ l.length) ∧ L.length ≤ l.length := by
  intro n l L hn h
  have e := readT_one n l L hn h
  subst e
  unfold formsT
  clear hn h
  induction L with
  | nil => exact ⟨fun t ht => (by cases ht), Nat.le_refl _⟩
  | cons x L ih =>
    have hx : x.length ≤ (esc x).length := by
      clear ih
      induction x with
      | nil => exact Nat.le_refl _
      | cons c x ih =>
        rw [esc_cons]
        split <;> simp <;> omega
    obtain ⟨h1, h2⟩ := ih
    simp only [List.flatMap_cons, List.length_append, List.length_cons, List.length_nil]
    refine ⟨fun t ht => ?_, by omega⟩
    rcases List.mem_cons.1 ht with rfl | ht
    · omega
    · have := h1 t ht
      omega
theorem vok_of {k n : Int} {s : ByteArray} {ns : List Int} {ts : List ByteArray} (a : -9223372036854775808 ≤ k ∧ k ≤ 9223372036854775807) (b : -9223372036854775808 ≤ n ∧ n ≤ 9223372036854775807) (c : s.size ≤ 140737488351232)
    (d : ∀ x ∈ ns, -9223372036854775808 ≤ x ∧ x ≤ 9223372036854775807) (e : ns.length * 8 ≤ 140737488351232) (f : ∀ x ∈ ts, x.size ≤ 140737488351232) (g : ts.length * 16 ≤ 140737488351232) : Vok ⟨k, n, s, ns, ts⟩ :=
  ⟨a.1, a.2, b.1, b.2, c, d, e, f, g⟩
theorem no_mem {α : Type} {P : α → Prop} : ∀ x ∈ ([] : List α), P x := fun x hx => by cases hx
theorem readV_ok {k : Int} (hk : 1 ≤ k ∧ k ≤ 8) (l : Bs) (hl : l.length ≤ 1073741824) : Vok (readV k l).1 := by
  have hz : (mkS []).size ≤ 140737488351232 := by decide
  have hkk : -9223372036854775808 ≤ k ∧ k ≤ 9223372036854775807 := by omega
  have h0 : -9223372036854775808 ≤ (0 : Int) ∧ (0 : Int) ≤ 9223372036854775807 := by decide
  have hI : ([] : List Int).length * 8 ≤ 140737488351232 := by decide
  have hS : ([] : List ByteArray).length * 16 ≤ 140737488351232 := by decide
  rcases (show k < 4 ∨ k = 4 ∨ (4 < k ∧ k < 8) ∨ k = 8 by omega) with hk1 | hk1 | ⟨hk1, hk2⟩ | hk1
  · rw [readV_num hk1]
    exact vok_of hkk (numR_bd k l) hz no_mem hI no_mem hS
  · subst hk1
    rw [readV_text]
    exact vok_of hkk h0 (by rw [mkS_size]; omega) no_mem hI no_mem hS
  · rw [readV_nums hk1 hk2]
    obtain ⟨h1, h2⟩ := readN_bd (numR (k - 4)) (numR_bd (k - 4)) _ l rfl
    exact vok_of hkk h0 hz h1 (by omega) no_mem hS
  · subst hk1
    cases hr : readT l with
    | none =>
      rw [readV_texts_no hr]
      exact vok_of hkk h0 hz no_mem hI no_mem hS
    | some L =>
      rw [readV_texts hr]
      obtain ⟨h1, h2⟩ := readT_bd _ l L rfl hr
      refine vok_of hkk h0 hz no_mem hI ?_ ?_
      · intro x hx
        obtain ⟨t, ht, rfl⟩ := List.mem_map.1 hx
        have := h1 t ht
        rw [mkS_size]; omega
      · rw [List.length_map]; omega
theorem noneV_ok : Vok noneV := ⟨by decide, by decide, by decide, by decide, by decide, (fun x hx => by cases hx), by decide, (fun x hx => by cases hx), by decide⟩
theorem parseV_ok (l : Bs) (hl : l.length ≤ 1073741824) : Vok (parseV l).1 := by
  rcases cutK_cases l with ⟨k, r, hk, he, hc⟩ | ⟨-, hc⟩
  · rw [parseV_at hc]
    have hr : r.length ≤ l.length := by rw [he]; simp
    split
    · split
      · exact readV_ok hk r (by omega)
      · exact noneV_ok
    · exact noneV_ok
  · rw [parseV_miss hc]
    exact noneV_ok
end Go.Proofs.YthfoffcfbfmajaaGreatDoor
