/- cell: lists' forms, as functions on lists of bytes: what is printed is read again, and what is read has one form. No program is named here. -/
import Derived.Test.YthmgkjfohkadoaaGreatDoorCsPure
import Derived.Shelf.Strings.Replace
namespace Go.Proofs.YthmgkjfohkadoaaGreatDoor
open Go.RowKit
set_option linter.unusedVariables false

/-- each c turned into new -/
def rep (c : UInt8) (new : Bs) (l : Bs) : Bs := l.flatMap fun x => if x = c then new else [x]
theorem rep_replace (c : UInt8) (new : Bs) : ∀ s : Bs, Lib.replaceK [c] new (s.count c) s = rep c new s := by
  intro s
  induction s with
  | nil => rfl
  | cons d r ih =>
    by_cases hd : d = c
    · subst hd
      rw [List.count_cons_self]
      have hi : Lib.index (d :: r) [d] = ((0 : Nat) : Int) := by
        rw [Lib.index_one]
        simp [Lib.indexByte]
      rw [Lib.replaceK_hit _ _ _ _ 0 hi]
      simp only [List.take_zero, List.nil_append, List.length_cons, List.length_nil, Nat.zero_add, List.drop_succ_cons, List.drop_zero]
      rw [ih]
      simp [rep]
    · rw [List.count_cons_of_ne hd]
      have e : rep c new (d :: r) = d :: rep c new r := by simp [rep, hd]
      rw [e]
      cases hk : r.count c with
      | zero =>
        rw [hk] at ih
        rw [Lib.replaceK] at ih ⊢
        rw [← ih]
      | succ k =>
        obtain ⟨i, hi⟩ := Lib.index_of_count (s := r) (old := [c]) (by rw [Lib.count_one, hk]; omega)
        have hi2 : Lib.index (d :: r) [c] = ((i + 1 : Nat) : Int) := by
          rw [Lib.index_one] at hi ⊢
          rw [Lib.indexByte, hi]
          have e1 : (d == c) = false := beq_eq_false_iff_ne.2 hd
          have e2 : ((i : Int) == -1) = false := by rw [beq_eq_false_iff_ne]; omega
          rw [e1, e2]
          simp
        rw [hk, Lib.replaceK_hit _ _ _ _ i hi] at ih
        rw [Lib.replaceK_hit _ _ _ _ (i + 1) hi2, ← ih]
        simp
theorem replaceAll_rep (c : UInt8) (new : Bs) (s : Bs) (hn : [c] ≠ new) : Lib.replaceAll s [c] new = rep c new s := by
  have e : Lib.replaceAll s [c] new = Lib.replaceK [c] new (s.count c) s := by
    unfold Lib.replaceAll Lib.replace Lib.replaceNum
    rw [if_neg (by simp [hn]), if_pos (.inl (by decide)), Lib.count_one]
  rw [e, rep_replace]

/-- a text in a list's form -/
def esc (l : Bs) : Bs := l.flatMap fun x => if x = 92 ∨ x = 59 then [92, x] else [x]
theorem esc_nil : esc [] = [] := rfl
theorem esc_cons (x : UInt8) (l : Bs) : esc (x :: l) = (if x = 92 ∨ x = 59 then [92, x] else [x]) ++ esc l := rfl
theorem esc_rep (l : Bs) : rep 59 [92, 59] (rep 92 [92, 92] l) = esc l := by
  induction l with
  | nil => rfl
  | cons x l ih =>
    have e : rep 92 [92, 92] (x :: l) = (if x = 92 then [92, 92] else [x]) ++ rep 92 [92, 92] l := rfl
    have ea : ∀ a b : Bs, rep 59 [92, 59] (a ++ b) = rep 59 [92, 59] a ++ rep 59 [92, 59] b := fun a b => by simp [rep]
    rw [e, ea, ih, esc_cons]
    congr 1
    by_cases h1 : x = 92
    · subst h1; rfl
    · rw [if_neg h1]
      by_cases h2 : x = 59
      · subst h2; rfl
      · rw [if_neg (by simp [h1, h2])]
        simp [rep, h2]
theorem esc_len (l : Bs) : (esc l).length ≤ 2 * l.length := by
  induction l with
  | nil => exact Nat.le_refl _
  | cons x l ih =>
    rw [esc_cons]
    split <;> simp <;> omega

/-- the text with which the elements begin, and what follows its end; none: a wrong one -/
def cutT : Bs → Option (Bs × Bs)
  | [] => none
  | [c] => if c = 59 then some ([], []) else none
  | c :: d :: r => if c = 59 then some ([], d :: r) else if c = 92 then (if d = 92 ∨ d = 59 then (cutT r).map fun p => (d :: p.1, p.2) else none) else (cutT (d :: r)).map fun p => (c :: p.1, p.2)
theorem cutT_end (r : Bs) : cutT (59 :: r) = some ([], r) := by
  cases r <;> simp [cutT]
theorem cutT_esc (d : UInt8) (r : Bs) (h : d = 92 ∨ d = 59) : cutT (92 :: d :: r) = (cutT r).map fun p => (d :: p.1, p.2) := by
  simp [cutT, h]
theorem cutT_bad (d : UInt8) (r : Bs) (h : ¬ (d = 92 ∨ d = 59)) : cutT (92 :: d :: r) = none := by
  simp [cutT, h]
theorem cutT_plain (c : UInt8) (r : Bs) (h1 : c ≠ 92) (h2 : c ≠ 59) : cutT (c :: r) = (cutT r).map fun p => (c :: p.1, p.2) := by
  cases r <;> simp [cutT, h1, h2]
theorem cutT_back (t r : Bs) : cutT (esc t ++ 59 :: r) = some (t, r) := by
  induction t with
  | nil => exact cutT_end r
  | cons x t ih =>
    rw [esc_cons]
    by_cases h : x = 92 ∨ x = 59
    · rw [if_pos h]
      show cutT (92 :: x :: (esc t ++ 59 :: r)) = _
      rw [cutT_esc _ _ h, ih]
      rfl
    · rw [if_neg h]
      have h1 := fun e => h (.inl e)
      have h2 := fun e => h (.inr e)
      show cutT (x :: (esc t ++ 59 :: r)) = _
      rw [cutT_plain _ _ h1 h2, ih]
      rfl
theorem cutT_one : ∀ (n : Nat) (l t r : Bs), l.length = n → cutT l = some (t, r) → l = esc t ++ 59 :: r := by
  intro n
  induction n using Nat.strongRecOn with
  | _ n ih =>
    intro l t r hn h
    cases l with
    | nil => cases h
    | cons c l =>
      by_cases h2 : c = 59
      · subst h2
        rw [cutT_end] at h
        cases h
        rfl
      · by_cases h1 : c = 92
        · subst h1
          cases l with
          | nil => simp [cutT] at h
          | cons d l =>
            by_cases hd : d = 92 ∨ d = 59
            · rw [cutT_esc _ _ hd] at h
              cases hc : cutT l with
              | none => rw [hc] at h; cases h
              | some p =>
                rw [hc] at h
                cases h
                have := ih l.length (by simp at hn; omega) l p.1 p.2 rfl hc
                rw [esc_cons, if_pos hd]
                show 92 :: d :: l = 92 :: d :: (esc p.1 ++ 59 :: p.2)
                rw [← this]
            · rw [cutT_bad _ _ hd] at h; cases h
        · rw [cutT_plain _ _ h1 h2] at h
          cases hc : cutT l with
          | none => rw [hc] at h; cases h
          | some p =>
            rw [hc] at h
            cases h
            have := ih l.length (by simp at hn; omega) l p.1 p.2 rfl hc
            rw [esc_cons, if_neg (by simp [h1, h2])]
            show c :: l = c :: (esc p.1 ++ 59 :: p.2)
            rw [← this]
theorem cutT_lt {l t r : Bs} (h : cutT l = some (t, r)) : r.length < l.length := by
  have := congrArg List.length (cutT_one _ l t r rfl h)
  simp at this
  omega

/-- the texts of a list's form -/
def readT (l : Bs) : Option (List Bs) :=
  if l = [] then some [] else
    match h : cutT l with
    | none => none
    | some p => (readT p.2).map (p.1 :: ·)
  termination_by l.length
  decreasing_by exact cutT_lt (t := p.1) h
def formsT (L : List Bs) : Bs := L.flatMap fun t => esc t ++ [59]
theorem readT_nil : readT [] = some [] := by rw [readT]; rfl
theorem readT_some {l t r : Bs} (h : cutT l = some (t, r)) : readT l = (readT r).map (t :: ·) := by
  have hl : l ≠ [] := by rintro rfl; cases h
  rw [readT, if_neg hl]
  split
  · rename_i h2; rw [h] at h2; cases h2
  · rename_i p h2; rw [h] at h2; cases h2; rfl
theorem readT_none {l : Bs} (hl : l ≠ []) (h : cutT l = none) : readT l = none := by
  rw [readT, if_neg hl]
  split
  · rfl
  · rename_i p h2; rw [h] at h2; cases h2
theorem readT_back (L : List Bs) : readT (formsT L) = some L := by
  induction L with
  | nil => exact readT_nil
  | cons t L ih =>
    have e : formsT (t :: L) = esc t ++ 59 :: formsT L := by simp [formsT]
    rw [e, readT_some (cutT_back t (formsT L)), ih]
    rfl
theorem readT_one : ∀ (n : Nat) (l : Bs) (L : List Bs), l.length = n → readT l = some L → l = formsT L := by
  intro n
  induction n using Nat.strongRecOn with
  | _ n ih =>
    intro l L hn h
    by_cases hl : l = []
    · subst hl
      rw [readT_nil] at h
      cases h
      rfl
    · cases hc : cutT l with
      | none => rw [readT_none hl hc] at h; cases h
      | some p =>
        rw [readT_some (t := p.1) (r := p.2) hc] at h
        cases hr : readT p.2 with
        | none => rw [hr] at h; cases h
        | some L2 =>
          rw [hr] at h
          cases h
          have h1 := cutT_one _ l p.1 p.2 rfl hc
          have h2 := ih p.2.length (by rw [← hn]; exact cutT_lt (t := p.1) hc) p.2 L2 rfl hr
          rw [h1, h2]
          simp [formsT]

/-- what strings.Cut gives at a semicolon -/
theorem idx59_miss (c : UInt8) : ∀ l : Bs, c ∉ l → Lib.indexByte l c = -1
  | [], _ => rfl
  | b :: l, h => by
    have hb : (b == c) = false := beq_eq_false_iff_ne.2 fun e => h (by rw [e]; exact List.mem_cons_self ..)
    rw [Lib.indexByte, hb, idx59_miss c l fun h2 => h (List.mem_cons_of_mem _ h2)]
    rfl
theorem idx59_hit (c : UInt8) (r : Bs) : ∀ a : Bs, c ∉ a → Lib.indexByte (a ++ c :: r) c = ((a.length : Nat) : Int)
  | [], _ => by simp [Lib.indexByte]
  | b :: a, h => by
    have hb : (b == c) = false := beq_eq_false_iff_ne.2 fun e => h (by rw [e]; exact List.mem_cons_self ..)
    have ih := idx59_hit c r a fun h2 => h (List.mem_cons_of_mem _ h2)
    have e2 : (((a.length : Nat) : Int) == -1) = false := by rw [beq_eq_false_iff_ne]; omega
    rw [List.cons_append, Lib.indexByte, hb, ih, e2]
    simp
theorem cut_miss {c : UInt8} {l : Bs} (h : c ∉ l) : Lib.cut l [c] = (l, [], false) := by
  unfold Lib.cut
  rw [Lib.index_one, idx59_miss c l h, if_neg (by decide)]
theorem cut_hit {c : UInt8} {a r : Bs} (h : c ∉ a) : Lib.cut (a ++ c :: r) [c] = (a, r, true) := by
  unfold Lib.cut
  rw [Lib.index_one, idx59_hit c r a h, if_pos (by omega)]
  simp only [Int.toNat_natCast, List.take_left', List.length_cons, List.length_nil, Nat.zero_add]
  have e : a ++ c :: r = (a ++ [c]) ++ r := by simp
  rw [e, List.drop_left' (by simp)]

/-- the numbers of a list's form: f reads one (a number, and the error's number) -/
def readN (f : Bs → Int × Int) (l : Bs) : List Int × Int :=
  if h : l = [] then ([], 0) else if h2 : (59 : UInt8) ∈ l then
    (if (f (l.takeWhile (· ≠ 59))).2 = 0 then
      (if (readN f ((l.dropWhile (· ≠ 59)).drop 1)).2 = 0 then ((f (l.takeWhile (· ≠ 59))).1 :: (readN f ((l.dropWhile (· ≠ 59)).drop 1)).1, 0) else ([], (readN f ((l.dropWhile (· ≠ 59)).drop 1)).2))
    else ([], (f (l.takeWhile (· ≠ 59))).2)) else ([], 220)
  termination_by l.length
  decreasing_by all_goals
    have h3 := (List.dropWhile_sublist (p := (· ≠ 59)) (l := l)).length_le
    have h4 : 0 < l.length := List.length_pos_iff.2 h
    rw [List.length_drop]
    omega
def formsN (g : Int → Bs) (L : List Int) : Bs := L.flatMap fun n => g n ++ [59]
theorem cut59 (a b : Bs) (ha : (59 : UInt8) ∉ a) : (a ++ 59 :: b).takeWhile (· ≠ 59) = a ∧ (a ++ 59 :: b).dropWhile (· ≠ 59) = 59 :: b := by
  induction a with
  | nil => exact ⟨by simp, by simp⟩
  | cons x a ih =>
    have hx : x ≠ 59 := fun e => ha (by rw [e]; exact List.mem_cons_self ..)
    obtain ⟨h1, h2⟩ := ih fun h => ha (List.mem_cons_of_mem _ h)
    refine ⟨?_, ?_⟩
    · rw [List.cons_append, List.takeWhile_cons_of_pos (by simpa using hx), h1]
    · rw [List.cons_append, List.dropWhile_cons_of_pos (by simpa using hx), h2]
theorem readN_step (f : Bs → Int × Int) (a b : Bs) (ha : (59 : UInt8) ∉ a) :
    readN f (a ++ 59 :: b) = if (f a).2 = 0 then (if (readN f b).2 = 0 then ((f a).1 :: (readN f b).1, 0) else ([], (readN f b).2)) else ([], (f a).2) := by
  obtain ⟨h1, h2⟩ := cut59 a b ha
  rw [readN, dif_neg (by simp), dif_pos (by simp), h1, h2]
  rfl
theorem readN_nil (f : Bs → Int × Int) : readN f [] = ([], 0) := by rw [readN]; rfl
theorem readN_bad (f : Bs → Int × Int) {l : Bs} (hl : l ≠ []) (h : (59 : UInt8) ∉ l) : readN f l = ([], 220) := by
  rw [readN, dif_neg hl, dif_neg h]
theorem split59 {l : Bs} (h : (59 : UInt8) ∈ l) : ∃ a b, l = a ++ 59 :: b ∧ (59 : UInt8) ∉ a := by
  induction l with
  | nil => cases h
  | cons x l ih =>
    by_cases hx : x = 59
    · subst hx
      exact ⟨[], l, rfl, by simp⟩
    · obtain ⟨a, b, e, ha⟩ := ih ((List.mem_cons.1 h).resolve_left (fun e => hx e.symm))
      refine ⟨x :: a, b, by rw [e]; rfl, ?_⟩
      intro h2
      rcases List.mem_cons.1 h2 with h2 | h2
      · exact hx h2.symm
      · exact ha h2
theorem readN_back (f : Bs → Int × Int) (g : Int → Bs) (L : List Int) (hg : ∀ n ∈ L, f (g n) = (n, 0) ∧ (59 : UInt8) ∉ g n) : readN f (formsN g L) = (L, 0) := by
  induction L with
  | nil => exact readN_nil f
  | cons n L ih =>
    obtain ⟨h1, h2⟩ := hg n (List.mem_cons_self ..)
    have e : formsN g (n :: L) = g n ++ 59 :: formsN g L := by simp [formsN]
    rw [e, readN_step _ _ _ h2, h1, ih fun m hm => hg m (List.mem_cons_of_mem _ hm)]
    rfl
theorem readN_one (f : Bs → Int × Int) (g : Int → Bs) (hf : ∀ a, (f a).2 = 0 → a = g (f a).1) : ∀ (n : Nat) (l : Bs) (L : List Int), l.length = n → readN f l = (L, 0) → l = formsN g L := by
  intro n
  induction n using Nat.strongRecOn with
  | _ n ih =>
    intro l L hn h
    by_cases hl : l = []
    · subst hl
      rw [readN_nil] at h
      cases h
      rfl
    · by_cases h59 : (59 : UInt8) ∈ l
      · obtain ⟨a, b, e, ha⟩ := split59 h59
        rw [e, readN_step _ _ _ ha] at h
        by_cases h1 : (f a).2 = 0
        · rw [if_pos h1] at h
          by_cases h2 : (readN f b).2 = 0
          · rw [if_pos h2] at h
            have h3 : (f a).1 :: (readN f b).1 = L := congrArg Prod.fst h
            have h4 := ih b.length (by rw [← hn, e]; simp; omega) b (readN f b).1 rfl (Prod.ext rfl h2)
            rw [e, ← h3]
            have e2 : formsN g ((f a).1 :: (readN f b).1) = g (f a).1 ++ 59 :: formsN g (readN f b).1 := by simp [formsN]
            rw [e2, ← hf a h1, ← h4]
          · rw [if_neg h2] at h
            exact absurd (congrArg Prod.snd h) h2
        · rw [if_neg h1] at h
          exact absurd (congrArg Prod.snd h) h1
      · rw [readN_bad f hl h59] at h
        exact absurd (congrArg Prod.snd h) (show ¬ (220 : Int) = 0 by decide)
end Go.Proofs.YthmgkjfohkadoaaGreatDoor
