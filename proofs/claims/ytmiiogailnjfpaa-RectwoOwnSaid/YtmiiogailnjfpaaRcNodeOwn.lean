/- What GetNode gives, as a list of the call's own. -/
import Derived.Test.YtmiiogailnjfpaaRcSameN
namespace Go.Proofs.Ytmiiogailnjfpaa
open Go.RowKit
set_option linter.unusedVariables false

theorem St.blkOl {S : Fp} {l : List Ass} {w0 w : World} {g n : Nat} {P : List Int} (h : St S (BlkA g 3 (icells P) :: l) w0 w) (hn : n ≤ P.length) (hm : P.length ≤ maxLen) : St S (OlA ivl 3 (.slice (some ⟨g, 0, none⟩) n P.length) (P.take n) :: l) w0 w := by
  refine h.map fun F hF => ?_
  obtain ⟨G, H, ⟨hb, rfl⟩, h2, h3, rfl⟩ := hF
  have e : (P.take n).length = n := by rw [List.length_take]; omega
  refine ⟨fun k => k = g, H, ⟨⟨fun x _ => ivl_ok x, ?_⟩, by funext k; simp [rfp, Value.ownBlock, eq_comm]⟩, h2, h3, rfl⟩
  rw [e]
  refine ⟨by simp; omega, .inr ⟨g, P.length, icells P, rfl, Nat.zero_le _, hb, hn, hm, by simp [icells], ?_⟩⟩
  simp [icells, List.map_take]
end Go.Proofs.Ytmiiogailnjfpaa
