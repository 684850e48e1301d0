/- The document's PutRel. -/
import Derived.Test.YtmiiogailnjfpaaRcRef2
namespace Go.Proofs.Ytmiiogailnjfpaa
open Go.RowKit
set_option linter.unusedVariables false

theorem St.own {l : List Ass} {w0 w : World} {e : TypeId} {v : Value} {bs : List Nat} (h : St Zf (ObA e v bs :: l) w0 w) : OB w w0.heap.size e v bs := by
  obtain ⟨_, ⟨G, H, ⟨ho, rfl⟩, h2, h3, rfl⟩, h4, hf⟩ := h
  refine ⟨ho.1, ?_⟩
  have h := ho.2
  have hs := h4.size
  refine ⟨h.1, ?_⟩
  rcases h.2 with h0 | ⟨g, cap, cur, hv, hb, hh, h1, h2, h3, h5⟩
  · exact .inl h0
  · refine .inr ⟨g, cap, cur, hv, ?_, hh, h1, h2, h3, h5⟩
    rcases hf g (.inl (by unfold rfp; rw [hv]; rfl)) with h | h
    · exact h.elim
    · exact h

def refRelOk (x : RelC) : Bool := linkR x && inR 0 200 x.ty && inR (-1) 65536 x.pr
def refRelB (x : RelC) : List Nat := linkB x ++ ptrB x.pr
theorem linkB_short (x : RelC) : (linkB x).length ≤ 100 := by
  have q0 := putNum_short 4 (uIn x.fr)
  have q1 := putNum_short 4 (uIn x.to)
  have q2 := putNum_short 2 (uIn x.ty)
  have q3 := ptrB_short x.fp
  have q4 := ptrB_short x.fn
  have q5 := ptrB_short x.tp
  have q6 := ptrB_short x.tn
  unfold linkB
  simp only [List.length_append]
  omega
/-- what a Put of the document leaves -/
def RefPut (ok : Bool) (bs : List Nat) (w : World) (e : Ending) (w' : World) : Prop :=
  ∃ v, e = .returned (.tuple #[v, .int .i64 (if ok = true then 0 else 41)]) ∧ OB w' w.heap.size 5 v (if ok = true then bs else []) ∧ Below w.heap.size w w'
theorem refPut_no {w w1 : World} (hb : Below w.heap.size w w1) (N : Nat) (hN : w1.heap.size = N) : OB (w1.alloc (.cells #[] 5)) w.heap.size 5 (.slice (some ⟨N, 0, none⟩) 0 0) [] ∧ Below w.heap.size w (w1.alloc (.cells #[] 5)) := by
  subst hN
  exact ⟨⟨IsBytes.nil, World.ownsRow_lit w1 #[] 0 hb.size (Nat.zero_le _) rfl⟩, hb.alloc hb.size _⟩

end Go.Proofs.Ytmiiogailnjfpaa
