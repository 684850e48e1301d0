/- lexer: the law's example. -/
import Derived.Test.YthmgkjfohkadoaaGreatDoorLxN
import Derived.Test.YthmgkjfohkadoaaGreatDoorLxB
import Derived.KernelRfl
namespace Go.Proofs.YthmgkjfohkadoaaGreatDoor
open Go.RowKit
set_option linter.unusedVariables false

theorem All_any (s : ByteArray) (w : World) (hW : LxW w) : Calls Tryz.prog 10 #[.string s] w (AllW (lS s) w) := by
  cases h : (lxR (lS s)).2 with
  | none => exact all_ok s w hW h
  | some x => exact all_bad s w hW x.1 x.2 h
/-- a token that is no number and no text, reckoned -/
def tokC (a : Nat) (l : Bs) : Option (Tk × Nat) := match l with
  | [] => none
  | x :: r => if lxL x = true then some (⟨1, x :: r.takeWhile lxW, 0, a⟩, 1 + (r.takeWhile lxW).length) else if x = 39 then none else if bgN (x :: r) = true then none else match markX a (x :: r) markL with
    | .ok y => some y
    | .error _ => none
theorem tokC_ok {a : Nat} {l : Bs} {y : Tk × Nat} (h : tokC a l = some y) : tokG a l = .ok y := by
  cases l with
  | nil => cases h
  | cons x r =>
    unfold tokC at h
    dsimp only at h
    by_cases h1 : lxL x = true
    · rw [if_pos h1] at h
      injection h with h
      rw [← h]
      exact tok_word h1
    · rw [if_neg h1] at h
      by_cases h2 : x = 39
      · rw [if_pos h2] at h; cases h
      · rw [if_neg h2] at h
        by_cases h3 : bgN (x :: r) = true
        · rw [if_pos h3] at h; cases h
        · rw [if_neg h3] at h
          rw [tok_mark (by simpa using h1) (by simpa using h3) h2]
          cases hm : markX a (x :: r) markL with
          | error e => rw [hm] at h; cases h
          | ok z =>
            rw [hm] at h
            injection h with h
            rw [h]
def toksC : Nat → Nat → Bs → Option (List Tk)
  | 0, _, _ => none
  | n + 1, a, l => if l.drop (gapC false l) = [] then some [] else match tokC (a + gapC false l) (l.drop (gapC false l)) with
    | none => none
    | some (t, k) => (toksC n (a + gapC false l + k) ((l.drop (gapC false l)).drop (max k 1))).map (t :: ·)
theorem toksC_ok : ∀ (n a : Nat) (l : Bs) (X : List Tk), toksC n a l = some X → toksG a l = (X, none)
  | 0, _, _, _, h => by cases h
  | n + 1, a, l, X, h => by
    rw [toks_F]
    unfold toksC at h
    unfold toksF
    by_cases h1 : l.drop (gapC false l) = []
    · rw [if_pos h1] at h ⊢
      injection h with h
      rw [h]
    · rw [if_neg h1] at h ⊢
      cases h2 : tokC (a + gapC false l) (l.drop (gapC false l)) with
      | none => rw [h2] at h; cases h
      | some y =>
        obtain ⟨t, k⟩ := y
        rw [h2] at h
        rw [tokC_ok h2]
        obtain ⟨Y, hY, rfl⟩ := Option.map_eq_some_iff.1 h
        have h3 := toksC_ok n _ _ _ hY
        dsimp only
        rw [h3]
def s24 : Bs := [40, 110, 48, 41, 45, 91, 114, 49, 58, 84, 93, 45, 62, 40, 110, 50, 41]
def t24 : List Tk := [⟨5, [40], 0, 0⟩, ⟨1, [110, 48], 0, 1⟩, ⟨5, [41], 0, 3⟩, ⟨5, [45], 0, 4⟩, ⟨5, [91], 0, 5⟩, ⟨1, [114, 49], 0, 6⟩, ⟨5, [58], 0, 8⟩, ⟨1, [84], 0, 9⟩, ⟨5, [93], 0, 10⟩, ⟨5, [45, 62], 0, 11⟩, ⟨5, [40], 0, 13⟩, ⟨1, [110, 50], 0, 14⟩, ⟨5, [41], 0, 16⟩]
theorem s24_all : lxA s24 = (t24, 0, 0) := by
  have h : toksG 0 s24 = (t24, none) := toksC_ok 20 0 s24 t24 (by kernel_rfl)
  have h2 : lxR s24 = (t24, none) := by unfold lxR; rw [if_neg (by decide), h]
  rw [lxA_ok (by rw [h2]), h2]
theorem b24_all : lxA [97, 47, 98] = ([], 1, 240) := by
  have h1 : toksG 1 [47, 98] = ([], some (1, 240)) := by
    rw [toks_F]
    unfold toksF
    have hg : gapC false [47, 98] = 0 := by decide
    rw [hg]
    simp only [List.drop_zero, Nat.add_zero]
    rw [if_neg (by simp), tok_mark (by decide) (by decide) (by decide)]
    rfl
  have h : (toksG 0 [97, 47, 98]).2 = some (1, 240) := by
    rw [toks_F]
    unfold toksF
    have hg : gapC false [97, 47, 98] = 0 := by decide
    rw [hg]
    simp only [List.drop_zero, Nat.add_zero]
    rw [if_neg (by simp), tok_word (by decide)]
    have hw : [47, 98].takeWhile lxW = [] := by decide
    dsimp only
    rw [hw]
    simp only [List.length_nil, Nat.add_zero, Nat.zero_add, Nat.max_self, List.drop_succ_cons, List.drop_zero]
    rw [h1]
  have h2 : (lxR [97, 47, 98]).2 = some (1, 240) := by unfold lxR; rw [if_neg (by decide), h]
  exact lxA_no h2
/-- the tokens of a list that the call owns read -/
theorem St.tkAt {S : Fp} {l : List Ass} {w0 w : World} {v : Value} {X : List Tk} (h : St S (OwA tkF 4 30 v X :: l) w0 w) (h0 : 0 < X.length) :
    ∃ g cap, v = .slice (some ⟨g, 0, none⟩) X.length cap ∧ X.length ≤ cap ∧ cap ≤ maxLen ∧ g < w.heap.size ∧ ∀ k x, X[k]? = some x → w.cell? ⟨g, k * 4, none⟩ = some (.int .i64 x.k) ∧ w.cell? ⟨g, k * 4 + 1, none⟩ = some (.string (mkS x.t)) ∧ w.cell? ⟨g, k * 4 + 2, none⟩ = some (.int .i64 x.n) ∧ w.cell? ⟨g, k * 4 + 3, none⟩ = some (.int .i64 (x.p : Int)) := by
  obtain ⟨A, cap, rfl, h1, h2, h3⟩ := h.owForm
  obtain ⟨b, off, rfl, hb, hc⟩ := h3.all tkF_row h0
  have ho : off = 0 := by
    rcases h.ow.2 with ⟨h4, h5⟩ | ⟨g, cp, cur, h4, -⟩
    · omega
    · injection h4 with h4
      injection h4 with h4
      injection h4
  subst ho
  refine ⟨b, cap, rfl, h1, h2, hb, fun k x hx => ?_⟩
  have h4 := hc k x hx
  simp only [Nat.zero_add] at h4
  exact ⟨h4 0 _ rfl, h4 1 _ rfl, h4 2 _ rfl, h4 3 _ rfl⟩
set_option maxRecDepth 100000 in
set_option maxHeartbeats 1000000 in
theorem speaks24_any (w : World) (hW : LxW w) : Calls Tryz.prog 5 #[] w fun e w' => e = .returned (.bool true) ∧ Below w.heap.size w w' := by
  have HA : Hid (Calls Tryz.prog 10 #[.string ⟨#[40, 110, 48, 41, 45, 91, 114, 49, 58, 84, 93, 45, 62, 40, 110, 50, 41]⟩] w fun e w' => ∃ v, e = .returned (.tuple #[v, .int .i64 0, .int .i64 0]) ∧ St Zf [OwA tkF 4 30 v t24] w w') := Lib.hid (by
    have h := All_any ⟨#[40, 110, 48, 41, 45, 91, 114, 49, 58, 84, 93, 45, 62, 40, 110, 50, 41]⟩ w hW
    unfold AllW at h
    rw [show lS ⟨#[40, 110, 48, 41, 45, 91, 114, 49, 58, 84, 93, 45, 62, 40, 110, 50, 41]⟩ = s24 from rfl, s24_all] at h
    exact h)
  have HB : Hid (∀ w', Below w.heap.size w w' → Calls Tryz.prog 10 #[.string ⟨#[97, 47, 98]⟩] w' fun e w2 => ∃ v, e = .returned (.tuple #[v, .int .i64 1, .int .i64 240]) ∧ Below w'.heap.size w' w2) := Lib.hid fun w' hb => by
    have h := All_any ⟨#[97, 47, 98]⟩ w' (hW.below hb (Nat.le_refl _))
    unfold AllW at h
    rw [show lS ⟨#[97, 47, 98]⟩ = [97, 47, 98] from rfl, b24_all] at h
    exact h.mono fun e w2 ⟨v, h1, h2⟩ => ⟨v, h1, h2.bel⟩
  have HQ : Hid (∀ w, Calls Tryz.prog 11 #[.string ⟨#[97, 10, 39, 98]⟩] w fun e w' => e = .returned (.string ⟨#[39, 97, 92, 110, 92, 39, 98, 39]⟩) ∧ Below w.heap.size w w') := Lib.hid fun w => by
    have h := Quote_any ⟨#[97, 10, 39, 98]⟩ w (by decide)
    rw [show mkS (quoteB (lS ⟨#[97, 10, 39, 98]⟩)) = (⟨#[39, 97, 92, 110, 92, 39, 98, 39]⟩ : ByteArray) from by kernel_rfl] at h
    exact h
  clear hW
  go_enter Tryz.func5, Tryz.ntmps5
  go_wp2_with fail
  refine HA.out.mono ?_
  rintro e w1 ⟨v, rfl, h1⟩
  obtain ⟨g, cap, rfl, hc1, hc2, hg, hcell⟩ := h1.tkAt (by decide)
  have HB1 := Lib.hid h1.bel
  obtain ⟨c4, c5', c6, c7⟩ := hcell 1 ⟨1, [110, 48], 0, 1⟩ rfl
  obtain ⟨-, d1', -, -⟩ := hcell 9 ⟨5, [45, 62], 0, 11⟩ rfl
  have c5 : w1.cell? ⟨g, 1 * 4 + 1, none⟩ = some (.string ⟨#[110, 48]⟩) := c5'
  have d1 : w1.cell? ⟨g, 9 * 4 + 1, none⟩ = some (.string ⟨#[45, 62]⟩) := d1'
  clear c5' d1'
  rw [show t24.length = 13 from rfl] at hc1 ⊢
  clear hcell h1
  have HB2 := Lib.hid (HB.out _ HB1.out)
  clear HB HA
  go_wp2_with fail
  refine HB2.out.mono ?_
  rintro e w2 ⟨v2, rfl, hb2⟩
  have HB3 := Lib.hid (HB1.out.trans (hb2.mono HB1.out.size))
  clear hb2
  go_wp2_with fail
  refine (HQ.out _).mono ?_
  rintro e w3 ⟨rfl, hb3⟩
  have HB4 := Lib.hid (HB3.out.trans (hb3.mono HB3.out.size))
  clear hb3
  go_wp2
  go_ret
  exact ⟨rfl, HB4.out⟩
end Go.Proofs.YthmgkjfohkadoaaGreatDoor
