/- general: what the library's own number holds; strings one behind another; a list's elements as they lie. -/
import Derived.Test.YthmgkjfohkadoaaGreatDoorCsPure
import Derived.Test.YthmgkjfohkadoaaGreatDoorRws
namespace Go.Proofs.YthmgkjfohkadoaaGreatDoor
open Go.RowKit
set_option linter.unusedVariables false

/-- the library's own number holds something -/
def MW (w : World) : Prop := ∃ m, w.cell? ⟨1, 0, none⟩ = some (.int .i64 m)
theorem MW.below {w w' : World} {B : Nat} (h : MW w) (hb : Below B w w') (hB : 1 < B) : MW w' := by
  obtain ⟨m, h⟩ := h
  exact ⟨m, (hb.cell (p := ⟨1, 0, none⟩) hB).trans h⟩
theorem MW.pos {w : World} (h : MW w) : 1 < w.heap.size := by
  obtain ⟨m, h⟩ := h
  have := World.block_lt_of_cell? _ _ h
  exact this
theorem str_cat (a b : Bs) : mkS a ++ mkS b = mkS (a ++ b) := by
  apply ByteArray.ext
  simp [mkS]
theorem nthD_mem {α : Type} [Inhabited α] {L : List α} {k : Nat} (h : k < L.length) : nthD L k ∈ L := by
  rw [nthD_lt h]
  exact List.getElem_mem h
theorem RL.allD {α : Type} [Inhabited α] {f : α → Value} {w : World} {B : Nat} {A : Option Addr} {L : List α} (h : RL f w B A L) (hk : 0 < L.length) : ∃ b off, A = some ⟨b, off, none⟩ ∧ b < B ∧ ∀ k, k < L.length → w.cell? ⟨b, off + k, none⟩ = some (f (nthD L k)) := by
  obtain ⟨b, off, hA, hb, hc⟩ := h.all hk
  exact ⟨b, off, hA, hb, fun k hk => by rw [nthD_lt hk]; exact hc k hk⟩
end Go.Proofs.YthmgkjfohkadoaaGreatDoor
