/- The Writer as an object. -/
import Derived.Test.YtgpahglmhnnobaaGreatDoorSep
import Derived.Test.YtgpahglmhnnobaaGreatDoorWriter
import Derived.Deep.RegionLaw
import Derived.Deep.QuietTactic
import Derived.BigQuiet
import Derived.Deep.RegionHeld3
import Derived.OwnWalk
namespace Go.Proofs.YtgpahglmhnnobaaGreatDoor
open Go.RowKit
set_option linter.unusedVariables false
/-! ### the Writer as an object -/
def WrA (g : Nat) (bs : List Nat) : Ass := fun w F => ∃ v, Wr w 0 g v bs ∧ F = wfp g v
instance stableWr {g : Nat} {bs : List Nat} : Stable (WrA g bs) where
  lt := by
    rintro w F ⟨v, h, rfl⟩ k hk
    exact (h.lt k hk).2
  keep := by
    rintro w w' F ⟨v, h, rfl⟩ _ hk
    exact ⟨v, ⟨h.1.keep (hk g (.inl rfl)), h.2.1, h.2.2.keep fun k e => hk k (.inr e)⟩, rfl⟩
theorem putNum_enc {d n : Nat} (h : d = 1 ∨ d = 2 ∨ d = 4 ∨ d = 8) : putNum (d : Int) n = enc d n := by
  rw [putNum_yes (isW_yes (by omega)), Int.toNat_natCast]
section
variable {S : Fp} {l : List Ass} {w0 w w' : World}
theorem St.newWr [Stable (Sep l)] (h : St S l w0 w) : St S (WrA w.heap.size [] :: l) w0 (w.alloc (.cells #[.slice none 0 0] 70)) :=
  h.add (F := wfp w.heap.size (.slice none 0 0)) ((Below.refl _ _).alloc (Nat.le_refl _) _) ⟨_, ⟨Blk.new _ _ _, Nat.zero_le _, OB.nil _ _ _⟩, rfl⟩ fun k hk => by
    rcases hk with hk | hk
    · omega
    · cases hk
set_option maxHeartbeats 400000 in
theorem WNumA [Stable (Sep l)] {g : Nat} {bs : List Nat} (h : St S (WrA g bs :: l) w0 w) {d : Nat} {dd : Int} (hdd : (d : Int) = dd) (hd : d = 1 ∨ d = 2 ∨ d = 4 ∨ d = 8) (n : Nat) (hn : n < 18446744073709551616) (hl : bs.length + 8 ≤ 140737488355328) :
    Calls Tryz.prog 62 #[.pointer (some ⟨g, 0, none⟩), .int .i64 dd, .int .u64 n] w fun e w' => e = .returned (.tuple #[]) ∧ St S (WrA g (bs ++ enc d n) :: l) w0 w' := by
  subst hdd
  obtain ⟨F, ⟨v, hw, rfl⟩, k⟩ := h.turn
  refine (WNum_any 0 g v bs (d : Int) n w hw hn hl).mono ?_
  rintro e w' ⟨rfl, v', h1, h2, h3⟩
  rw [putNum_enc hd] at h1
  exact ⟨rfl, k _ _ ⟨_, ⟨v', h1, rfl⟩, h2, h3⟩⟩
set_option maxHeartbeats 400000 in
theorem WRawA [Stable (Sep l)] {g : Nat} {bs : List Nat} (h : St S (WrA g bs :: l) w0 w) (A : Option Addr) (cap B : Nat) (news : List Nat) (hr : RB w B A news) (hl : bs.length + news.length ≤ 140737488355328) :
    Calls Tryz.prog 19 #[.pointer (some ⟨g, 0, none⟩), .slice A news.length cap] w fun e w' => e = .returned (.tuple #[]) ∧ St S (WrA g (bs ++ news) :: l) w0 w' := by
  obtain ⟨F, ⟨v, hw, rfl⟩, k⟩ := h.turn
  refine (Raw_any 0 g v bs A cap B news w hw hr hl).mono ?_
  rintro e w' ⟨rfl, v', h1, h2, h3⟩
  exact ⟨rfl, k _ _ ⟨_, ⟨v', h1, rfl⟩, h2, h3⟩⟩
set_option maxHeartbeats 400000 in
theorem WBytesA [Stable (Sep l)] {g : Nat} {bs : List Nat} (h : St S (WrA g bs :: l) w0 w) (hl : bs.length ≤ 140737488355328) :
    Calls Tryz.prog 20 #[.pointer (some ⟨g, 0, none⟩)] w fun e w' => ∃ v, e = .returned v ∧ St S (ObA 5 v bs :: WrA g bs :: l) w0 w' := by
  obtain ⟨F, ⟨v, hw, _⟩⟩ := h.head
  refine (Bytes_any 0 g v bs w hw hl).mono ?_
  rintro e w' ⟨v', rfl, h1, h2⟩
  exact ⟨v', rfl, h.newOb h1 h2⟩
end

theorem cells2 {S : Fp} {l : List Ass} {w0 w : World} {g : Nat} {t : TypeId} {a b : Value} (h : St S (BlkA g t #[a, b] :: l) w0 w) : w.cell? ⟨g, 0, none⟩ = some a ∧ w.cell? ⟨g, 1, none⟩ = some b := by
  have hb := h.blk
  exact ⟨by rw [hb.cell 0]; rfl, by rw [hb.cell 1]; rfl⟩

end Go.Proofs.YtgpahglmhnnobaaGreatDoor
