/- lexer: scripts as tokens, as functions on lists of bytes. No function of the program is named here. -/
import Derived.Test.YthmgkjfohkadoaaGreatDoorCeNum
namespace Go.Proofs.YthmgkjfohkadoaaGreatDoor
open Go.RowKit
set_option linter.unusedVariables false

def lxL (x : UInt8) : Bool := decide (97 ≤ x ∧ x ≤ 122 ∨ 65 ≤ x ∧ x ≤ 90 ∨ x = 95)
def lxD (x : UInt8) : Bool := decide (48 ≤ x ∧ x ≤ 57)
def lxW (x : UInt8) : Bool := lxL x || lxD x
def lxN (x : UInt8) : Bool := lxW x || x == 46
def lxP (x : UInt8) : Bool := decide (32 ≤ x ∧ x ≤ 126)
def lxB (x : UInt8) : Bool := x == 32 || x == 9 || x == 10 || x == 13
/-- how many bytes of blanks and comments lie ahead (within a comment, or not) -/
def gapC : Bool → Bs → Nat
  | _, [] => 0
  | true, x :: r => gapC (x != 10) r + 1
  | false, x :: r => if x = 47 ∧ r.head? = some 47 then gapC true r + 1 else if lxB x = true then gapC false r + 1 else 0
theorem gapC_true (l : Bs) : gapC true l = (l.takeWhile (· != 10)).length + gapC false (l.dropWhile (· != 10)) := by
  induction l with
  | nil => rfl
  | cons x r ih =>
    by_cases hx : x = 10
    · subst hx
      show gapC false r + 1 = 0 + gapC false (10 :: r)
      have : gapC false (10 :: r) = gapC false r + 1 := by
        show (if (10 : UInt8) = 47 ∧ r.head? = some 47 then _ else if lxB 10 = true then gapC false r + 1 else 0) = _
        rw [if_neg (by intro h; exact absurd h.1 (by decide)), if_pos (by decide)]
      omega
    · have hx' : (x != 10) = true := by simpa using hx
      show gapC (x != 10) r + 1 = _
      rw [List.takeWhile_cons_of_pos (p := fun y => y != 10) hx', List.dropWhile_cons_of_pos (p := fun y => y != 10) hx', hx', ih, List.length_cons]
      omega
/-- a comment goes to its line's end -/
theorem gap_comment (r : Bs) : gapC false (47 :: 47 :: r) = ((47 :: 47 :: r : Bs).takeWhile (· != 10)).length + gapC false ((47 :: 47 :: r : Bs).dropWhile (· != 10)) := by
  have h : gapC false (47 :: 47 :: r) = gapC true (47 :: r) + 1 := by
    show (if (47 : UInt8) = 47 ∧ (47 :: r).head? = some 47 then gapC true (47 :: r) + 1 else _) = _
    rw [if_pos ⟨rfl, rfl⟩]
  rw [h, gapC_true, List.takeWhile_cons_of_pos (a := 47) (by decide), List.dropWhile_cons_of_pos (a := 47) (by decide), List.takeWhile_cons_of_pos (a := 47) (by decide), List.dropWhile_cons_of_pos (a := 47) (by decide)]
  simp only [List.length_cons]
  rw [List.takeWhile_cons_of_pos (a := 47) (by decide), List.dropWhile_cons_of_pos (a := 47) (by decide), List.length_cons]
  omega
theorem gap_blank {x : UInt8} (r : Bs) (h : lxB x = true) : gapC false (x :: r) = gapC false r + 1 := by
  show (if x = 47 ∧ r.head? = some 47 then _ else if lxB x = true then gapC false r + 1 else 0) = _
  rw [if_neg (by rintro ⟨rfl, -⟩; exact absurd h (by decide)), if_pos h]
theorem gap_stop {x : UInt8} (r : Bs) (h : lxB x = false) (h2 : ¬ (x = 47 ∧ r.head? = some 47)) : gapC false (x :: r) = 0 := by
  show (if x = 47 ∧ r.head? = some 47 then _ else if lxB x = true then gapC false r + 1 else 0) = _
  rw [if_neg h2, if_neg (by rw [h]; decide)]
theorem gapC_le (b : Bool) (l : Bs) : gapC b l ≤ l.length := by
  induction l generalizing b with
  | nil => exact Nat.le_refl _
  | cons x r ih =>
    cases b
    · show (if x = 47 ∧ r.head? = some 47 then gapC true r + 1 else if lxB x = true then gapC false r + 1 else 0) ≤ _
      have h1 := ih true
      have h2 := ih false
      rw [List.length_cons]
      split
      · omega
      · split <;> omega
    · have := ih (x != 10)
      show gapC (x != 10) r + 1 ≤ _
      rw [List.length_cons]
      omega

/-- a hexadecimal digit's value -/
def hxV (x : UInt8) : Option Nat := if lxD x = true then some (x.toNat - 48) else if 97 ≤ x ∧ x ≤ 102 then some (x.toNat - 87) else none
def hxD (n : Nat) : UInt8 := if n < 10 then UInt8.ofNat (48 + n) else UInt8.ofNat (87 + n)
theorem hxV_D {n : Nat} (h : n < 16) : hxV (hxD n) = some n := by
  have : ∀ n : Fin 16, hxV (hxD n.val) = some n.val := by decide
  exact this ⟨n, h⟩
/-- what a backslash stands for: the byte, the bytes behind the backslash (0: there is no such escape) -/
def escR : Bs → UInt8 × Nat
  | [] => (0, 0)
  | c :: r => if c = 92 ∨ c = 39 then (c, 1) else if c = 110 then (10, 1) else if c = 114 then (13, 1) else if c = 116 then (9, 1)
    else if c = 120 then (match r with | a :: b :: _ => (match hxV a, hxV b with | some i, some j => (UInt8.ofNat (i * 16 + j), 3) | _, _ => (0, 0)) | _ => (0, 0)) else (0, 0)
/-- the text behind the apostrophe: what it says and where it ends, or where what is wrong -/
def txtG (p0 i : Nat) (acc : Bs) (l : Bs) : Except (Nat × Int) (Bs × Nat) :=
  match l with
  | [] => .error (p0, 241)
  | x :: r =>
    if x = 39 then .ok (acc, i + 1)
    else if lxP x = false then .error (i, 240)
    else if x = 92 then (if (escR r).2 = 0 then .error (i, 242) else txtG p0 (i + 1 + (escR r).2) (acc ++ [(escR r).1]) (r.drop (escR r).2))
    else txtG p0 (i + 1) (acc ++ [x]) r
termination_by l.length
decreasing_by all_goals (simp; try omega)
/-- what stands for a byte in a text -/
def qByte (c : UInt8) : Bs := if c = 10 then [92, 110] else if c = 13 then [92, 114] else if c = 9 then [92, 116] else if lxP c = false then [92, 120, hxD (c.toNat / 16), hxD (c.toNat % 16)] else if c = 39 ∨ c = 92 then [92, c] else [c]
def quoteB (l : Bs) : Bs := 39 :: (l.flatMap qByte ++ [39])
theorem txt_byte (c : UInt8) (p0 i : Nat) (acc r : Bs) : txtG p0 i acc (qByte c ++ r) = txtG p0 (i + (qByte c).length) (acc ++ [c]) r := by
  by_cases h1 : c = 10
  · subst h1
    rw [show qByte 10 = [92, 110] from by decide]
    simp only [List.cons_append, List.nil_append]
    rw [txtG, if_neg (by decide), if_neg (by decide), if_pos rfl, show escR (110 :: r) = (10, 1) from rfl]
    simp only [Nat.one_ne_zero, ↓reduceIte, List.drop_succ_cons, List.drop_zero, List.length_cons, List.length_nil]
  · by_cases h2 : c = 13
    · subst h2
      rw [show qByte 13 = [92, 114] from by decide]
      simp only [List.cons_append, List.nil_append]
      rw [txtG, if_neg (by decide), if_neg (by decide), if_pos rfl, show escR (114 :: r) = (13, 1) from rfl]
      simp only [Nat.one_ne_zero, ↓reduceIte, List.drop_succ_cons, List.drop_zero, List.length_cons, List.length_nil]
    · by_cases h3 : c = 9
      · subst h3
        rw [show qByte 9 = [92, 116] from by decide]
        simp only [List.cons_append, List.nil_append]
        rw [txtG, if_neg (by decide), if_neg (by decide), if_pos rfl, show escR (116 :: r) = (9, 1) from rfl]
        simp only [Nat.one_ne_zero, ↓reduceIte, List.drop_succ_cons, List.drop_zero, List.length_cons, List.length_nil]
      · by_cases h4 : lxP c = false
        · have hq : qByte c = [92, 120, hxD (c.toNat / 16), hxD (c.toNat % 16)] := by
            unfold qByte
            rw [if_neg h1, if_neg h2, if_neg h3, if_pos h4]
          have hc := c.toNat_lt
          have he : escR (120 :: hxD (c.toNat / 16) :: hxD (c.toNat % 16) :: r) = (c, 3) := by
            show (match hxV (hxD (c.toNat / 16)), hxV (hxD (c.toNat % 16)) with | some i, some j => (UInt8.ofNat (i * 16 + j), 3) | _, _ => ((0 : UInt8), 0)) = (c, 3)
            rw [hxV_D (by omega), hxV_D (by omega)]
            show (UInt8.ofNat (c.toNat / 16 * 16 + c.toNat % 16), 3) = (c, 3)
            rw [show c.toNat / 16 * 16 + c.toNat % 16 = c.toNat from by omega, UInt8.ofNat_toNat]
          rw [hq]
          simp only [List.cons_append, List.nil_append]
          rw [txtG, if_neg (by decide), if_neg (by decide), if_pos rfl, he]
          simp only [List.drop_succ_cons, List.drop_zero, List.length_cons, List.length_nil]
          rfl
        · by_cases h5 : c = 39 ∨ c = 92
          · have hq : qByte c = [92, c] := by
              unfold qByte
              rw [if_neg h1, if_neg h2, if_neg h3, if_neg h4, if_pos h5]
            have he : escR (c :: r) = (c, 1) := by
              have h6 : c = 92 ∨ c = 39 := h5.symm
              simp only [escR]
              rw [if_pos h6]
            rw [hq]
            simp only [List.cons_append, List.nil_append]
            rw [txtG, if_neg (by decide), if_neg (by decide), if_pos rfl, he]
            simp only [Nat.one_ne_zero, ↓reduceIte, List.drop_succ_cons, List.drop_zero, List.length_cons, List.length_nil]
          · have hq : qByte c = [c] := by
              unfold qByte
              rw [if_neg h1, if_neg h2, if_neg h3, if_neg h4, if_neg h5]
            have h6 : ¬ c = 39 := fun h => h5 (.inl h)
            have h7 : ¬ c = 92 := fun h => h5 (.inr h)
            rw [hq]
            simp only [List.cons_append, List.nil_append]
            rw [txtG, if_neg h6, if_neg h4, if_neg h7]
            rfl
/-- a quoted text says what was quoted -/
theorem txt_quote (l : Bs) (p0 i : Nat) (acc r : Bs) : txtG p0 i acc (l.flatMap qByte ++ 39 :: r) = .ok (acc ++ l, i + (l.flatMap qByte).length + 1) := by
  induction l generalizing i acc with
  | nil =>
    show txtG p0 i acc (39 :: r) = _
    rw [txtG, if_pos rfl]
    simp
  | cons c l ih =>
    rw [List.flatMap_cons, List.append_assoc, txt_byte, ih, List.length_append]
    simp only [List.append_assoc, List.singleton_append, Nat.add_assoc]
theorem qByte_len (c : UInt8) : (qByte c).length ≤ 4 := by
  unfold qByte
  repeat' split
  all_goals simp
theorem quote_len (l : Bs) : (quoteB l).length ≤ 4 * l.length + 2 := by
  have : (l.flatMap qByte).length ≤ 4 * l.length := by
    induction l with
    | nil => simp
    | cons c l ih =>
      have := qByte_len c
      rw [List.flatMap_cons, List.length_append, List.length_cons]
      omega
  unfold quoteB
  rw [List.length_cons, List.length_append, List.length_singleton]
  omega

/-- a token: its kind, its text, its number, its place -/
structure Tk where
  k : Int
  t : Bs
  n : Int
  p : Nat
/-- the token with which l begins (l is not empty), its length; or the error's place and number -/
noncomputable def tokG (at_ : Nat) (l : Bs) : Except (Nat × Int) (Tk × Nat) :=
  match l with
  | [] => .error (at_, 240)
  | c :: r =>
    if c = 39 then (match txtG at_ (at_ + 1) [] r with | .error e => .error e | .ok (t, i) => .ok (⟨4, t, 0, at_⟩, i - at_))
    else if lxL c = true then .ok (⟨1, c :: r.takeWhile lxW, 0, at_⟩, 1 + (r.takeWhile lxW).length)
    else if lxD c = true ∨ (c = 45 ∧ (r.head?.map lxD) = some true) then
      (if Lib.hasPrefix (Lib.trimPrefix (c :: r.takeWhile lxN) [45]) [48, 120] = true then
        (if (rdF (c :: r.takeWhile lxN)).2 = 0 then .ok (⟨3, [], i64Of (rdF (c :: r.takeWhile lxN)).1, at_⟩, 1 + (r.takeWhile lxN).length) else .error (at_, (rdF (c :: r.takeWhile lxN)).2))
      else if (parseI (c :: r.takeWhile lxN)).2 = 0 then .ok (⟨2, [], (parseI (c :: r.takeWhile lxN)).1, at_⟩, 1 + (r.takeWhile lxN).length) else .error (at_, (parseI (c :: r.takeWhile lxN)).2))
    else if c = 45 ∧ r.head? = some 62 then .ok (⟨5, [45, 62], 0, at_⟩, 2)
    else if c ∈ ([40, 41, 123, 125, 91, 93, 58, 44, 59, 45] : Bs) then .ok (⟨5, [c], 0, at_⟩, 1)
    else .error (at_, 240)
/-- the tokens ahead of the first error, and that error -/
noncomputable def toksG (at_ : Nat) (l : Bs) : List Tk × Option (Nat × Int) :=
  if h : l.drop (gapC false l) = [] then ([], none)
  else match tokG (at_ + gapC false l) (l.drop (gapC false l)) with
    | .error e => ([], some e)
    | .ok (t, n) => (t :: (toksG (at_ + gapC false l + n) ((l.drop (gapC false l)).drop (max n 1))).1, (toksG (at_ + gapC false l + n) ((l.drop (gapC false l)).drop (max n 1))).2)
termination_by l.length
decreasing_by
  all_goals
    have h1 : 0 < (l.drop (gapC false l)).length := List.length_pos_iff.2 h
    simp only [List.length_drop] at h1 ⊢
    omega
/-- a quoted text is one token that stands for it -/
theorem toks_quote (l : Bs) : toksG 0 (quoteB l) = ([⟨4, l, 0, 0⟩], none) := by
  have hg : gapC false (quoteB l) = 0 := gap_stop _ (by decide) (by rintro ⟨h, -⟩; exact absurd h (by decide))
  have ht : tokG 0 (quoteB l) = .ok (⟨4, l, 0, 0⟩, (quoteB l).length) := by
    unfold quoteB
    simp only [tokG]
    rw [if_pos trivial, txt_quote]
    simp
    omega
  rw [toksG, dif_neg (by rw [hg, List.drop_zero]; unfold quoteB; simp)]
  rw [hg, List.drop_zero, ht]
  simp only
  have hl : (quoteB l).drop (max (quoteB l).length 1) = [] := List.drop_eq_nil_of_le (Nat.le_max_left _ _)
  rw [hl, toksG, dif_pos (by simp)]
end Go.Proofs.YthmgkjfohkadoaaGreatDoor
