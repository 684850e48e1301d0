/- recfile: a byte of the head turned is told. -/
import Derived.Test.YtcclcecjidlojaaDoorRfPure
import Derived.Test.YtcclcecjidlojaaDoorBurst
namespace Go.Proofs.YtcclcecjidlojaaDoor
open Go.RowKit
set_option linter.unusedVariables false
theorem be_inj : ∀ (a b : List Nat), a.length = b.length → IsBytes a → IsBytes b → be a = be b → a = b
  | [], [], _, _, _, _ => rfl
  | [], _ :: _, h, _, _, _ => by simp at h
  | _ :: _, [], h, _, _, _ => by simp at h
  | c :: a, d :: b, h, ha, hb, he => by
    have hl : a.length = b.length := by simpa using h
    have ha' : IsBytes a := fun x hx => ha x (List.mem_cons_of_mem _ hx)
    have hb' : IsBytes b := fun x hx => hb x (List.mem_cons_of_mem _ hx)
    have h1 := be_all a ha'
    have h2 := be_all b hb'
    rw [be_cons, be_cons, ← hl] at he
    rw [← hl] at h2
    have hp : 0 < 256 ^ a.length := Nat.pow_pos (by decide)
    have e1 : (c * 256 ^ a.length + be a) / 256 ^ a.length = c := by
      rw [Nat.add_comm, Nat.add_mul_div_right _ _ hp, Nat.div_eq_of_lt h1, Nat.zero_add]
    have e2 : (d * 256 ^ a.length + be b) / 256 ^ a.length = d := by
      rw [Nat.add_comm, Nat.add_mul_div_right _ _ hp, Nat.div_eq_of_lt h2, Nat.zero_add]
    have hcd : c = d := by rw [← e1, ← e2, he]
    subst hcd
    rw [be_inj a b hl ha' hb' (by omega)]
theorem IsBytes.setAt {b : List Nat} (hb : IsBytes b) (k : Nat) {y : Nat} (hy : y < 256) : IsBytes (b.set k y) := by
  intro x hx
  rcases List.mem_or_eq_of_mem_set hx with h | h
  · exact hb x h
  · omega
theorem bur_one (b : List Nat) (k x : Nat) (hk : k < b.length) : bur b k [x] 1 = b.set k (nth b k ^^^ x) := by
  refine ext_nth (by simp [bur_length]) fun i hi => ?_
  rw [bur_length] at hi
  unfold bur
  rw [nth_range _ _ _ hi, nth_lt (a := b.set k (nth b k ^^^ x)) (by simpa using hi), List.getElem_set]
  by_cases h : k = i
  · subst h
    rw [if_pos ⟨Nat.le_refl _, by omega⟩, if_pos rfl, Nat.sub_self]
    rfl
  · rw [if_neg (by omega), if_neg h, Nat.xor_zero, nth_lt hi]
theorem hdErr_turned {b : List Nat} (hb : IsBytes b) (h16 : 16 ≤ b.length) (h0 : hdErr b = 0) {k x : Nat} (hk : k < 16) (hx0 : x ≠ 0) (hx : x < 256) : hdErr (b.set k (nth b k ^^^ x)) ≠ 0 := by
  intro hc
  have hn : nth b k < 256 := hb.nth k
  have hy : nth b k ^^^ x < 256 := Nat.xor_lt_two_pow (n := 8) hn hx
  obtain ⟨-, -, -, hs⟩ := hdErr_ok h16 h0
  obtain ⟨-, -, -, ht⟩ := hdErr_ok (by simpa using h16) hc
  by_cases hlt : k < 12
  · have e1 : hd (b.set k (nth b k ^^^ x)) 12 4 = hd b 12 4 := by
      unfold hd
      rw [List.take_set, List.drop_set_of_lt (by omega)]
    have e2 : (b.set k (nth b k ^^^ x)).take 12 = bur (b.take 12) k [x] 1 := by
      rw [List.take_set, bur_one _ _ _ (by rw [List.length_take]; omega), nth_take (by omega)]
    rw [e1, e2, hs] at ht
    have := (crc_bur (b.take 12) k [x] 1 (Nat.le_refl _) (by rw [List.length_take]; omega) (by decide) (by intro z hz; simp only [List.mem_singleton] at hz; omega)).1 ht.symm
    simp [hx0] at this
  · have e2 : (b.set k (nth b k ^^^ x)).take 12 = b.take 12 := by
      rw [List.take_set, List.set_eq_of_length_le (by rw [List.length_take]; omega)]
    rw [e2, ← hs] at ht
    unfold hd at ht
    have hB : IsBytes (((b.take 16).drop 12).take 4) := fun z hz => hb z (List.mem_of_mem_take (List.mem_of_mem_drop (List.mem_of_mem_take hz)))
    have hB2 : IsBytes ((((b.set k (nth b k ^^^ x)).take 16).drop 12).take 4) := fun z hz => hb.setAt k hy z (List.mem_of_mem_take (List.mem_of_mem_drop (List.mem_of_mem_take hz)))
    have h3 := be_inj _ _ (by simp) hB2 hB ht
    have e5 : 12 + (k - 12) = k := by omega
    have rd : ∀ c : List Nat, nth (((c.take 16).drop 12).take 4) (k - 12) = nth c k := fun c => by rw [nth_take (by omega), nth_drop, e5, nth_take (by omega)]
    have h4 : nth (b.set k (nth b k ^^^ x)) k = nth b k := (rd _).symm.trans ((congrArg (fun l => nth l (k - 12)) h3).trans (rd b))
    rw [nth_lt (a := b.set k (nth b k ^^^ x)) (by simp; omega), List.getElem_set_self] at h4
    have h6 : nth b k ^^^ (nth b k ^^^ x) = nth b k ^^^ nth b k := by rw [h4]
    rw [← Nat.xor_assoc, Nat.xor_self, Nat.zero_xor] at h6
    exact hx0 h6
theorem openErr_turned {b : List Nat} (hb : IsBytes b) (h16 : 16 ≤ b.length) (h0 : hdErr b = 0) {k x : Nat} (hk : k < 16) (hx0 : x ≠ 0) (hx : x < 256) : (b.set k (nth b k ^^^ x)).length < 16 ∨ hdErr (b.set k (nth b k ^^^ x)) ≠ 0 := .inr (hdErr_turned hb h16 h0 hk hx0 hx)
end Go.Proofs.YtcclcecjidlojaaDoor
