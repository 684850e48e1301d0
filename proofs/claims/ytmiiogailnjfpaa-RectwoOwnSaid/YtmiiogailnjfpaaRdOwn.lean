/- What GetNode and GetRel of version 2 give, as lists of the call's own. -/
import Derived.Test.YtmiiogailnjfpaaRcStore
import Derived.Test.YtmiiogailnjfpaaRdPureNod
namespace Go.Proofs.Ytmiiogailnjfpaa
open Go.RowKit
set_option linter.unusedVariables false

theorem slB_le (s : Cs) (m : Nat) : (slB s (m : Int)).length ≤ m := by
  cases s with
  | w bs => exact Nat.zero_le _
  | r bs err =>
    unfold slB rawVal
    simp only
    split
    · rw [List.length_take, Int.toNat_natCast]; omega
    · exact Nat.zero_le _
theorem GetNodT_own (A : Option Addr) (cap B : Nat) (bs : List Nat) (w : World) (hr : RB w B A bs) (hB : B ≤ w.heap.size) (hl : bs.length ≤ 140737488355328) :
    Calls Try.prog 17 #[.slice A bs.length cap] w fun e w' => ∃ (d : Bool) (f o : Int) (A1 : Option Addr) (X1 : List Int) (c1 : Nat) (A2 : Option Addr) (S1 : List Nat) (c2 : Nat), e = .returned (.tuple #[.agg #[.bool d, .int .i64 f, .int .i64 o, .slice A1 X1.length c1, .slice A2 S1.length c2], .int .i64 (getNodTE bs)]) ∧ X1.length ≤ 8 ∧ S1.length ≤ 48 ∧ (getNodTE bs = 0 → d = (getNodTV bs).d ∧ f = (getNodTV bs).f ∧ o = (getNodTV bs).o ∧ X1 = (getNodTP bs).take (cutLen (getNodTP bs) 8) ∧ S1 = getNodTS bs) ∧ St Zf [OlA ivl 3 (.slice A1 X1.length c1) X1, ObA 5 (.slice A2 S1.length c2) S1] w w' := by
  refine (GetNodT_any A cap B bs w hr hB hl).mono ?_
  rintro e w' ⟨g, a, b, d, rfl, h⟩
  by_cases h0 : getNodTE bs = 0
  · simp only [if_pos h0]
    have hp : (getNodTP bs).length = 8 := by
      unfold getNodTP nodPl
      exact labL_length _ _ _
    have hc : cutLen (getNodTP bs) 8 ≤ 8 := cutLen_le _ _
    have h1 := h.blkOl (n := cutLen (getNodTP bs) 8) (by omega) (by rw [hp]; decide)
    rw [hp] at h1
    have hb := h.swap.ob.reads.1
    have ht : ((getNodTP bs).take (cutLen (getNodTP bs) 8)).length = cutLen (getNodTP bs) 8 := by rw [List.length_take]; omega
    have hs : (getNodTS bs).length ≤ 48 := slB_le _ 48
    rw [← ht] at h1
    rw [hb] at h1 ⊢
    refine ⟨_, _, _, some ⟨g, 0, none⟩, (getNodTP bs).take (cutLen (getNodTP bs) 8), 8, a, getNodTS bs, d, by rw [ht], by omega, hs, fun _ => ⟨rfl, rfl, rfl, rfl, rfl⟩, ?_⟩
    rw [ht] at h1 ⊢
    exact h1
  · simp only [if_neg h0]
    exact ⟨_, _, _, none, [], 0, none, [], 0, rfl, by simp, by simp, fun h => absurd h h0, (h.drop.drop.nilOb 5).nilOl ivl 3⟩
theorem GetRelT_own (A : Option Addr) (cap B : Nat) (bs : List Nat) (w : World) (hr : RB w B A bs) (hB : B ≤ w.heap.size) (hl : bs.length ≤ 140737488355328) :
    Calls Try.prog 23 #[.slice A bs.length cap] w fun e w' => ∃ (lv : Bool) (y : RelC) (A2 : Option Addr) (S1 : List Nat) (c2 : Nat), e = .returned (.tuple #[.agg #[.bool lv, .int .i64 y.fr, .int .i64 y.to, .int .i64 y.fp, .int .i64 y.tp, .int .i64 y.fn, .int .i64 y.tn, .int .i64 y.ty, .int .i64 y.pr, .slice A2 S1.length c2], .int .i64 (getRelTE bs)]) ∧ S1.length ≤ 32 ∧ (getRelTE bs = 0 → lv = true ∧ y = getRelTV bs ∧ S1 = getRelTS bs) ∧ St Zf [ObA 5 (.slice A2 S1.length c2) S1] w w' := by
  refine (GetRelT_any A cap B bs w hr hB hl).mono ?_
  rintro e w' ⟨a, b, d, rfl, h⟩
  by_cases h0 : getRelTE bs = 0
  · simp only [if_pos h0]
    have hb := h.ob.reads.1
    have hs : (getRelTS bs).length ≤ 32 := slB_le _ 32
    rw [hb] at h ⊢
    exact ⟨_, getRelTV bs, a, getRelTS bs, d, rfl, hs, fun _ => ⟨rfl, rfl, rfl⟩, h⟩
  · simp only [if_neg h0]
    exact ⟨false, ⟨false, 0, 0, 0, 0, 0, 0, 0, 0⟩, none, [], 0, rfl, by simp, fun h => absurd h h0, h.drop.nilOb 5⟩
end Go.Proofs.Ytmiiogailnjfpaa
