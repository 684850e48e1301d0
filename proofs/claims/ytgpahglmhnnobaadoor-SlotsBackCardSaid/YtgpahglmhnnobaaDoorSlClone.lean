/- slots: the law's clone. -/
import Derived.Test.YtgpahglmhnnobaaDoorSep
import Derived.Test.YtgpahglmhnnobaaDoorRefSet
import Derived.Test.YtgpahglmhnnobaaDoorSlPack
namespace Go.Proofs.YtgpahglmhnnobaaDoor
open Go.RowKit
set_option linter.unusedVariables false
set_option maxHeartbeats 400000 in
theorem lawClone_any (A : Option Addr) (cap B : Nat) (bs : List Nat) (w : World) (h : RB w B A bs) (hB : B ≤ w.heap.size) (hl : bs.length ≤ 140737488355328) :
    Calls Tryd.prog 16 #[.slice A bs.length cap] w (NewB bs w) := by
  obtain ⟨i0, hi, hz0, hz1, hz2⟩ := info_parts u8_info
  go_enter Tryd.func16, Tryd.ntmps16
  go_wp2_with (at_builtin; refine wpList_append_bytes _ rfl _ _ 31 rfl w.heap.size 5 i0 Tryd.underlying31 hi hz0 hz1 hz2 (.slice (some ⟨w.heap.size, 0, none⟩) 0 0) [] (by rfl) ⟨IsBytes.nil, World.ownsRow_lit w #[] 0 (Nat.le_refl _) (Nat.zero_le _) rfl⟩ A cap B bs bs.length rfl (by rfl) (h.alloc hB _) (by simpa using hl) (by simp) ?_; intro v1 w1 hown1 hg1 hat1)
  have hb1 : Below w.heap.size w w1 := below_own (((Below.refl _ _).alloc (Nat.le_refl _) _)) (World.ownsRow_lit (base := w.heap.size) (size := 1) w #[] 0 (Nat.le_refl _) (Nat.zero_le _) rfl) (Nat.le_refl _) hg1 (by simp)
  go_ret
  exact ⟨_, rfl, by simpa using hown1, hb1⟩
theorem cloneA {S : Fp} {l : List Ass} [Stable (Sep l)] {w0 w : World} (h : St S l w0 w) {A : Option Addr} {cap B : Nat} {bs : List Nat} (hr : RB w B A bs) (hB : B ≤ w.heap.size) (hl : bs.length ≤ 140737488355328) :
    Calls Tryd.prog 16 #[.slice A bs.length cap] w fun e w' => ∃ A' c', e = .returned (.slice A' bs.length c') ∧ bs.length ≤ c' ∧ c' ≤ maxLen ∧ St S (ObA 5 (.slice A' bs.length c') bs :: l) w0 w' := by
  refine (lawClone_any A cap B bs w hr hB hl).mono ?_
  rintro e w' ⟨v, rfl, ho, hb⟩
  obtain ⟨A', c', rfl, h1, h2, -, -⟩ := ho.form
  exact ⟨A', c', rfl, h1, h2, h.newOb ho hb⟩
end Go.Proofs.YtgpahglmhnnobaaDoor
