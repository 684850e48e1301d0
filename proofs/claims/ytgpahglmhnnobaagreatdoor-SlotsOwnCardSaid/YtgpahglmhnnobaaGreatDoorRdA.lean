/- The Reader as an object. -/
import Derived.Test.YtgpahglmhnnobaaGreatDoorSep
import Derived.Test.YtgpahglmhnnobaaGreatDoorRNum
import Derived.Test.YtgpahglmhnnobaaGreatDoorRRaw
import Derived.OwnWalk
namespace Go.Proofs.YtgpahglmhnnobaaGreatDoor
open Go.RowKit
set_option linter.unusedVariables false
def RdA (g : Nat) (bs : List Nat) (err : Int) : Ass := fun w F => ∃ q, Rd w 0 g q bs err ∧ F = fun k => k = g ∨ k = q
instance stableRd {g : Nat} {bs : List Nat} {err : Int} : Stable (RdA g bs err) where
  lt := by
    rintro w F ⟨q, h, rfl⟩ k (rfl | rfl)
    · exact h.lt.2.2.2
    · exact h.lt.2.2.1
  keep := by
    rintro w w' F ⟨q, h, rfl⟩ hs hk
    refine ⟨q, ?_, rfl⟩
    obtain ⟨A, c, h1, h2, h3, h4, h5, h6, h7, h8, h9⟩ := h
    refine ⟨A, c, h1.keep (hk g (.inl rfl)), ?_, h3, h4, h5, h6, h7, h8, by omega⟩
    refine RB.more ?_ hs
    exact ⟨h2.1, h2.2.1, fun hn => by
      obtain ⟨ad, e, hlt, hc⟩ := h2.2.2 hn
      refine ⟨ad, e, hlt, fun j u hu => ?_⟩
      refine (World.cell?_of_block ?_).trans (hc j u hu)
      obtain ⟨o, rfl⟩ := h3 ad e
      rw [block_of_add]
      exact hk q (.inr rfl)⟩

theorem Sep.two' {P Q : Ass} {w : World} {F G : Fp} (h1 : P w F) (h2 : Q w G) (h3 : ∀ k, F k → ¬ G k) : Sep [P, Q] w fun k => F k ∨ G k :=
  ⟨F, G, h1, ⟨G, fun _ => False, h2, rfl, fun _ _ h => h, by funext k; simp⟩, h3, rfl⟩
section
variable {S : Fp} {l : List Ass} {w0 w w' : World}
set_option maxHeartbeats 400000 in
theorem RNumA [Stable (Sep l)] {g : Nat} {bs : List Nat} {err : Int} (h : St S (RdA g bs err :: l) w0 w) (width : Int) :
    Calls Tryz.prog 52 #[.pointer (some ⟨g, 0, none⟩), .int .i64 width] w fun e w' => e = .returned (.int .u64 (getVal bs 0 width : Nat)) ∧ St S (RdA g (restOf bs (placeErr bs.length 0 width) width) (errBy err (placeErr bs.length 0 width)) :: l) w0 w' := by
  obtain ⟨F, ⟨q, hw, rfl⟩, k⟩ := h.turn
  refine (RNum_any 0 g q bs err width w hw).mono ?_
  rintro e w' ⟨rfl, h1, h2⟩
  exact ⟨rfl, k _ _ ⟨_, ⟨q, h1, rfl⟩, h2.mono (fun i _ e => .inl e), fun i hi => .inl hi⟩⟩
set_option maxHeartbeats 400000 in
theorem LeftA {g : Nat} {bs : List Nat} {err : Int} (h : St S (RdA g bs err :: l) w0 w) :
    Calls Tryz.prog 51 #[.pointer (some ⟨g, 0, none⟩)] w fun e w' => e = .returned (.int .i64 (bs.length : Int)) ∧ w = w' := by
  obtain ⟨F, ⟨q, hw, _⟩⟩ := h.head
  exact Left_any 0 g q bs err w hw
set_option maxHeartbeats 400000 in
theorem RRawA [Stable (Sep l)] {g : Nat} {bs : List Nat} {err : Int} (h : St S (RdA g bs err :: l) w0 w) (n : Int) (hl8 : bs.length ≤ 140737488355328) :
    Calls Tryz.prog 54 #[.pointer (some ⟨g, 0, none⟩), .int .i64 n] w fun e w' => ∃ v, e = .returned v ∧ St S (ObA 5 v (rawVal bs n) :: RdA g (restOf bs (rawErr bs.length n) n) (errBy err (rawErr bs.length n)) :: l) w0 w' := by
  obtain ⟨F, ⟨q, hw, rfl⟩, k⟩ := h.turn
  refine (RRaw_any 0 g q bs err n w hw hl8).mono ?_
  rintro e w' ⟨v, rfl, ho, h1, h2⟩
  have hlt := h1.lt
  have hlt0 := hw.lt
  have hq : St S (Sep [ObA 5 v (rawVal bs n), RdA g (restOf bs (rawErr bs.length n) n) (errBy err (rawErr bs.length n))] :: l) w0 w' := k _ _ ⟨_, Sep.two' ⟨ho.mono (Nat.zero_le _), rfl⟩ ⟨q, h1, rfl⟩ (by
    intro x hx
    have := (ho.2.lt x hx).1
    rintro (rfl | rfl) <;> omega), h2.mono (fun i _ e => .inl e), fun i hi => by
    rcases hi with hi | hi
    · exact .inr (ho.2.lt i hi).1
    · exact .inl hi⟩
  exact ⟨v, rfl, hq.flat⟩
end
end Go.Proofs.YtgpahglmhnnobaaGreatDoor
