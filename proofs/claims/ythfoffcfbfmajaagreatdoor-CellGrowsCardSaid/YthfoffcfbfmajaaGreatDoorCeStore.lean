/- cell: stores into a list of the own, among objects. -/
import Derived.Test.YthfoffcfbfmajaaGreatDoorCeSpeak
import Derived.Test.YthfoffcfbfmajaaGreatDoorSpoil
import Derived.Test.YthfoffcfbfmajaaGreatDoorApList
namespace Go.Proofs.YthfoffcfbfmajaaGreatDoor
open Go.RowKit
set_option linter.unusedVariables false

theorem row_storeC {w : World} {base : Nat} {e : TypeId} {A : Option Addr} {n cap : Nat} {xs : List Value} (h : w.ownsRow base e 1 (.slice A n cap) n xs) {k : Nat} (hk : k < n) (u : Value) :
    ∃ g, A = some ⟨g, 0, none⟩ ∧ (∃ u0, w.cell? ⟨g, k, none⟩ = some u0) ∧ w.frozen? ⟨g, k, none⟩ = false ∧ (w.setCell ⟨g, k, none⟩ u).ownsRow base e 1 (.slice A n cap) n (xs.set k u) ∧ w.grownBy (w.setCell ⟨g, k, none⟩ u) (some g) := by
  obtain ⟨g, cap', hv, _, _⟩ := h.form (by omega)
  simp only [Value.slice.injEq] at hv
  obtain ⟨rfl, -, -⟩ := hv
  have hl : xs.length = n := by rw [h.1, Nat.mul_one]
  have hc := (h.cells (g := g) rfl) k _ (List.getElem?_eq_getElem (by omega))
  rw [add_none, Nat.zero_add] at hc
  have hs := h.stored k u
  exact ⟨g, rfl, ⟨_, hc⟩, h.frozenAt k, hs.1, hs.2⟩
theorem OL.storeAtC {α : Type} {f : α → Value} {w : World} {base : Nat} {e : TypeId} {A : Option Addr} {n cap : Nat} {L : List α} (h : OL f w base e (.slice A n cap) L) (hn : L.length = n) {k : Nat} (hk : k < n) (y : α) (hy : f y ≠ undef ∧ (f y).oneCell' = true) :
    ∃ g, A = some ⟨g, 0, none⟩ ∧ (∃ u0, w.cell? ⟨g, k, none⟩ = some u0) ∧ w.frozen? ⟨g, k, none⟩ = false ∧ OL f (w.setCell ⟨g, k, none⟩ (f y)) base e (.slice A n cap) (L.set k y) ∧ w.grownBy (w.setCell ⟨g, k, none⟩ (f y)) (some g) := by
  have h2 := h.2
  rw [hn] at h2
  obtain ⟨g, hA, hc, hf, ho, hg⟩ := row_storeC h2 hk (f y)
  refine ⟨g, hA, hc, hf, ⟨fun x hx => ?_, ?_⟩, hg⟩
  · rcases List.mem_or_eq_of_mem_set hx with h3 | h3
    · exact h.1 x h3
    · rw [h3]; exact hy
  · rw [List.length_set, hn, List.map_set]; exact ho
theorem St.storeOlC {S : Fp} {l : List Ass} [Stable (Sep l)] {w0 w : World} {α : Type} {f : α → Value} {e : TypeId} {A : Option Addr} {n cap : Nat} {L : List α} (h : St S (OlA f e (.slice A n cap) L :: l) w0 w) (hn : L.length = n) {k : Nat} (hk : k < n) (y : α) (hy : f y ≠ undef ∧ (f y).oneCell' = true) :
    ∃ g, A = some ⟨g, 0, none⟩ ∧ (∃ u0, w.cell? ⟨g, k, none⟩ = some u0) ∧ w.frozen? ⟨g, k, none⟩ = false ∧ St S (OlA f e (.slice A n cap) (L.set k y) :: l) w0 (w.setCell ⟨g, k, none⟩ (f y)) := by
  obtain ⟨g, rfl, hc, hf, ho, hg⟩ := h.ol.storeAtC hn hk y hy
  exact ⟨g, rfl, hc, hf, h.grewOl ho hg (.inl rfl) (Nat.le_refl _)⟩
theorem St.blk_neC {S : Fp} {l : List Ass} {w0 w : World} {g g' : Nat} {t t' : TypeId} {cs cs' : Array Value} (h : St S (BlkA g t cs :: BlkA g' t' cs' :: l) w0 w) : g' ≠ g := by
  obtain ⟨_, ⟨G, H, ⟨_, rfl⟩, ⟨G2, H2, ⟨_, rfl⟩, _, _, rfl⟩, hd, _⟩, _⟩ := h
  intro e
  exact hd g rfl (.inl e.symm)
end Go.Proofs.YthfoffcfbfmajaaGreatDoor
