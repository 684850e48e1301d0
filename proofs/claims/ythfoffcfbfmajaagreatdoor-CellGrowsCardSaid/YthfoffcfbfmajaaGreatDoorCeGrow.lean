/- cell: a list with one element more: facts; the document's law's walk is in CeGrowN (numbers) and CeGrowT (texts). -/
import Derived.Test.YthfoffcfbfmajaaGreatDoorCeFmtA
import Derived.Test.YthfoffcfbfmajaaGreatDoorCeSpeak
import Derived.Test.YthfoffcfbfmajaaGreatDoorCeStore
import Derived.Test.YthfoffcfbfmajaaGreatDoorValRefA
import Derived.Test.YthfoffcfbfmajaaGreatDoorValCopy
import Derived.Laws.Concat
namespace Go.Proofs.YthfoffcfbfmajaaGreatDoor
open Go.RowKit
set_option linter.unusedVariables false
set_option linter.unusedSimpArgs false

def worldOf {l : List Ass} {w0 W : World} (_ : Hid (St Zf l w0 W)) : World := W
def headOf {l : List Ass} {w0 W : World} {g : Nat} {t : TypeId} {cs : Array Value} (_ : Hid (St Zf (BlkA g t cs :: l) w0 W)) : Nat := g
theorem str_self (S : ByteArray) : (S.toList == S.toList) = true := by simp
theorem St.blk_ge {l : List Ass} {w0 w : World} {g : Nat} {t : TypeId} {cs : Array Value} (h : St Zf (BlkA g t cs :: l) w0 w) : w0.heap.size ≤ g := by
  obtain ⟨_, ⟨G, H, ⟨_, rfl⟩, h2, h3, rfl⟩, h4, hb⟩ := h
  rcases hb g (.inl rfl) with h | h
  · exact h.elim
  · exact h
theorem OL.lit1 {α : Type} {f : α → Value} (w : World) (e : TypeId) (y : α) (hy : f y ≠ undef ∧ (f y).oneCell' = true) : OL f (w.alloc (.cells #[f y] e)) w.heap.size e (.slice (some ⟨w.heap.size, 0, none⟩) 1 1) [y] :=
  ⟨(fun x hx => by obtain rfl := List.mem_singleton.1 hx; exact hy), World.ownsRow_lit (size := 1) w #[f y] 1 (Nat.le_refl _) (by decide) rfl⟩
theorem grow_say {v V1 V2 : Vv} (h : chk v = 0) (hok : Vok v) (ok1 : Vok V1) (hk1 : V1.k = v.k) (hk2 : V2.k = v.k) (hb : 4 < v.k ∧ v.k ≤ 8) (he : chk V2 = chk V1) (hf : fmtV V2 = fmtV v ++ fmtV V1) (hne : 0 < (fmtV V1).length) :
    ∃ (SA SB SC : ByteArray) (E : Int), printV v = (lS SA, 0) ∧ printV V1 = (lS SB, E) ∧ printV V2 = (lS SC, E) ∧ chk V1 = E ∧ (E ≠ 0 → SB = ⟨#[]⟩ ∧ SC = ⟨#[]⟩) ∧ (E = 0 → 4 < SB.size ∧ SB.size ≤ 8388612 ∧ SA.size ≤ 8388612 ∧ SA ++ SB.extract 4 SB.size = SC) := by
  have hA := fmtV_len hok h
  have h4 := begB_four hb.1 hb.2
  by_cases h1 : chk V1 = 0
  · have hB := fmtV_len ok1 h1
    refine ⟨mkS (begB v.k ++ fmtV v), mkS (begB v.k ++ fmtV V1), mkS (begB v.k ++ fmtV V2), 0, ?_, ?_, ?_, h1, fun h => absurd rfl h, fun _ => ⟨?_, ?_, ?_, ?_⟩⟩
    · rw [printV_ok h, lS_mk]
    · rw [printV_ok h1, lS_mk, hk1]
    · rw [printV_ok (he.trans h1), lS_mk, hk2]
    · rw [mkS_size, List.length_append]; omega
    · rw [mkS_size, List.length_append]; omega
    · rw [mkS_size, List.length_append]; omega
    · rw [mkS_drop, List.drop_left' h4, str_cat, hf, List.append_assoc]
  · refine ⟨mkS (begB v.k ++ fmtV v), ⟨#[]⟩, ⟨#[]⟩, chk V1, ?_, ?_, ?_, rfl, fun _ => ⟨rfl, rfl⟩, fun h => absurd h h1⟩
    · rw [printV_ok h, lS_mk]
    · rw [printV_no h1]; rfl
    · rw [printV_no (by rw [he]; exact h1), he]; rfl
end Go.Proofs.YthfoffcfbfmajaaGreatDoor
