/- Stores into lists of the call's own, and what stays beside them. -/
import Derived.Test.YtcopofdoelcgcaaValLaw
import Derived.Maps.AppendAt
namespace Go.Proofs.Ytcopofdoelcgcaa
open Go.RowKit
set_option linter.unusedVariables false

theorem row_store {w : World} {base : Nat} {e : TypeId} {A : Option Addr} {n cap : Nat} {xs : List Value} (h : w.ownsRow base e 1 (.slice A n cap) n xs) {k : Nat} (hk : k < n) (u : Value) :
    ∃ g, A = some ⟨g, 0, none⟩ ∧ (∃ u0, w.cell? ⟨g, k, none⟩ = some u0) ∧ w.frozen? ⟨g, k, none⟩ = false ∧ (w.setCell ⟨g, k, none⟩ u).ownsRow base e 1 (.slice A n cap) n (xs.set k u) ∧ w.grownBy (w.setCell ⟨g, k, none⟩ u) (some g) := by
  obtain ⟨g, cap', hv, _, _⟩ := h.form (by omega)
  simp only [Value.slice.injEq] at hv
  obtain ⟨rfl, -, -⟩ := hv
  have hl : xs.length = n := by rw [h.1, Nat.mul_one]
  have hc := (h.cells (g := g) rfl) k _ (List.getElem?_eq_getElem (by omega))
  rw [add_none, Nat.zero_add] at hc
  have hs := h.stored k u
  exact ⟨g, rfl, ⟨_, hc⟩, h.frozenAt k, hs.1, hs.2⟩
theorem OB.storeAt {w : World} {base : Nat} {e : TypeId} {A : Option Addr} {n cap : Nat} {L : List Nat} (h : OB w base e (.slice A n cap) L) (hn : L.length = n) {k : Nat} (hk : k < n) (m : Nat) (hm : m < 256) :
    ∃ g, A = some ⟨g, 0, none⟩ ∧ (∃ u0, w.cell? ⟨g, k, none⟩ = some u0) ∧ w.frozen? ⟨g, k, none⟩ = false ∧ OB (w.setCell ⟨g, k, none⟩ (.int .u8 (m : Int))) base e (.slice A n cap) (L.set k m) ∧ w.grownBy (w.setCell ⟨g, k, none⟩ (.int .u8 (m : Int))) (some g) := by
  have h2 := h.2
  rw [hn] at h2
  obtain ⟨g, hA, hc, hf, ho, hg⟩ := row_store h2 hk (.int .u8 (m : Int))
  refine ⟨g, hA, hc, hf, ⟨fun x hx => ?_, ?_⟩, hg⟩
  · rcases List.mem_or_eq_of_mem_set hx with h3 | h3
    · exact h.1 x h3
    · omega
  · rw [List.length_set, hn, ← set_cells8]; exact ho
theorem OL.storeAt {α : Type} {f : α → Value} {w : World} {base : Nat} {e : TypeId} {A : Option Addr} {n cap : Nat} {L : List α} (h : OL f w base e (.slice A n cap) L) (hn : L.length = n) {k : Nat} (hk : k < n) (y : α) (hy : f y ≠ undef ∧ (f y).oneCell' = true) :
    ∃ g, A = some ⟨g, 0, none⟩ ∧ (∃ u0, w.cell? ⟨g, k, none⟩ = some u0) ∧ w.frozen? ⟨g, k, none⟩ = false ∧ OL f (w.setCell ⟨g, k, none⟩ (f y)) base e (.slice A n cap) (L.set k y) ∧ w.grownBy (w.setCell ⟨g, k, none⟩ (f y)) (some g) := by
  have h2 := h.2
  rw [hn] at h2
  obtain ⟨g, hA, hc, hf, ho, hg⟩ := row_store h2 hk (f y)
  refine ⟨g, hA, hc, hf, ⟨fun x hx => ?_, ?_⟩, hg⟩
  · rcases List.mem_or_eq_of_mem_set hx with h3 | h3
    · exact h.1 x h3
    · rw [h3]; exact hy
  · rw [List.length_set, hn, List.map_set]; exact ho
theorem own_two_ne {w : World} {base base' : Nat} {e e' : TypeId} {size size' n n' : Nat} {v v' : Value} {xs xs' : List Value} (h : w.ownsRow base e size v n xs) (h' : w.ownsRow base' e' size' v' n' xs') (hne : e ≠ e') : ∀ g, v.ownBlock = some g → ¬ v'.ownBlock = some g := by
  intro g hg hg'
  rcases h.2 with ⟨rfl, _⟩ | ⟨g1, cap, cur, rfl, _, hh, _⟩
  · simp [Value.ownBlock] at hg
  · rcases h'.2 with ⟨rfl, _⟩ | ⟨g2, cap', cur', rfl, _, hh', _⟩
    · simp [Value.ownBlock] at hg'
    · have e1 : g1 = g := by simpa [Value.ownBlock] using hg
      have e2 : g2 = g := by simpa [Value.ownBlock] using hg'
      subst e1 e2
      rw [hh] at hh'
      injection hh' with hh'
      injection hh' with _ ht
      exact hne ht

/-- append(s, y, y, y) -/
theorem wpList_append_three {P : Program} {α : Type} {f : α → Value} (w : World) {ops : Array Oper} {rest : List Oper} {o : Oper} {a : Act} {Q : Exit → Act → World → Prop} (hgd : o.guard = none) (s x : Operand) (t : TypeId)
    (ho : o.op = .call { callee := .builtin .append, args := #[s, x], argTypes := #[t, t] })
    (base : Nat) (e : TypeId) (i : TypeInfo) (z : Value) (bytes : Nat) (ht : P.underlying t = some (.slice e)) (hi : P.info? e = some i) (hz : i.zero = some z) (hsize : i.size = 1) (hby : i.bytes = bytes) (hzs : z.cells.size = 1)
    (v : Value) (L : List α) (hs : a.eval s = v) (hown : OL f w base e v L) (y : α) (hy : f y ≠ undef ∧ (f y).oneCell' = true)
    (hx : a.eval x = .slice (some ⟨w.heap.size, 0, none⟩) 3 3) (hbytes : (L.length + 3) * bytes ≤ 140737488355328) (hb0 : 0 < bytes) (hbase : base ≤ w.heap.size)
    (h : ∀ v' w', OL f w' base e v' (L ++ [y, y, y]) → w.grownBy w' v.ownBlock → wpList P ops Q rest (a.put o.dst v') w') :
    wpList P ops Q (o :: rest) a (w.alloc (.cells #[f y, f y, f y] e)) := by
  have h64 : L.length + 3 ≤ (L.length + 3) * bytes := Nat.le_mul_of_pos_right _ hb0
  refine wpList_append_own_at (w.alloc (.cells #[f y, f y, f y] e)) hgd s x t ho base e i z 1 bytes ht hi hz hsize hby hzs (by omega) v L.length (L.map f) hs (hown.2.alloc _) ⟨w.heap.size, 0, none⟩ 3 3 [f y, f y, f y] hx rfl ?_ ?_ (by simp only [maxLen]; omega) hbytes (by simp; omega) ?_
  · intro j u hj
    exact World.news_of_block (heap_alloc_new w (.cells #[f y, f y, f y] e)) j u hj
  · intro u hu
    simp at hu
    subst hu
    exact hy.2
  · intro v' w' h1 h2 _ h3
    refine h v' w' ⟨?_, by simpa using h1⟩ ((World.grownBy_alloc w _ _).trans h2)
    intro x hx
    simp only [List.mem_append, List.mem_cons, List.not_mem_nil, or_false] at hx
    rcases hx with hx | rfl | rfl | rfl
    · exact hown.1 x hx
    · exact hy
    · exact hy
    · exact hy

end Go.Proofs.Ytcopofdoelcgcaa
