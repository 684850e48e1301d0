/- What GetNode gives, as a list of the call's own. -/
import Derived.Test.YtpoaokkmmoeekaaRcSameN
namespace Go.Proofs.Ytpoaokkmmoeekaa
open Go.RowKit
set_option linter.unusedVariables false

theorem St.blkOl {S : Fp} {l : List Ass} {w0 w : World} {g n : Nat} {P : List Int} (h : St S (BlkA g 3 (icells P) :: l) w0 w) (hn : n ≤ P.length) (hm : P.length ≤ maxLen) : St S (OlA ivl 3 (.slice (some ⟨g, 0, none⟩) n P.length) (P.take n) :: l) w0 w := by
  refine h.map fun F hF => ?_
  obtain ⟨G, H, ⟨hb, rfl⟩, h2, h3, rfl⟩ := hF
  have e : (P.take n).length = n := by rw [List.length_take]; omega
  refine ⟨fun k => k = g, H, ⟨⟨fun x _ => ivl_ok x, ?_⟩, by funext k; simp [rfp, Value.ownBlock, eq_comm]⟩, h2, h3, rfl⟩
  rw [e]
  refine ⟨by simp; omega, .inr ⟨g, P.length, icells P, rfl, Nat.zero_le _, hb, hn, hm, by simp [icells], ?_⟩⟩
  simp [icells, List.map_take]
theorem GetNode_own (A : Option Addr) (cap B : Nat) (bs : List Nat) (w : World) (hr : RB w B A bs) (hB : B ≤ w.heap.size) (hl : bs.length ≤ 140737488355328) :
    Calls Try.prog 15 #[.slice A bs.length cap] w fun e w' => ∃ (v : Value) (X : List Int), e = .returned (.tuple #[.agg #[.int .i64 (if getNE bs = 0 then getNR bs else 0), .int .i64 (if getNE bs = 0 then getNP bs else 0), v], .int .i64 (getNE bs)]) ∧ X.length ≤ 8 ∧ (getNE bs = 0 → X = (getNPl bs).take (cutLen (getNPl bs) 8)) ∧ St Zf [OlA ivl 3 v X] w w' := by
  refine (GetNode_any A cap B bs w hr hB hl).mono ?_
  rintro e w' ⟨g, rfl, h⟩
  by_cases h0 : getNE bs = 0
  · simp only [if_pos h0]
    have hp : (getNPl bs).length = 8 := by
      unfold getNPl
      exact labL_length _ _ _
    have hc : cutLen (getNPl bs) 8 ≤ 8 := cutLen_le _ _
    have h1 := h.blkOl (n := cutLen (getNPl bs) 8) (by omega) (by rw [hp]; decide)
    rw [hp] at h1
    exact ⟨_, _, rfl, by rw [List.length_take]; omega, fun _ => rfl, h1⟩
  · simp only [if_neg h0]
    exact ⟨_, [], rfl, by simp, fun h => absurd h h0, h.drop.nilOl ivl 3⟩
end Go.Proofs.Ytpoaokkmmoeekaa
