/- A graph in memory as the iterator meets it. -/
import Derived.Test.YthnaipgdjbaebaaGreatGrNames3
namespace Go.Proofs.YthnaipgdjbaebaaGreat
open Go.RowKit
set_option linter.unusedVariables false

theorem list_of' {α : Type} {P : Nat → α → Prop} (n : Nat) (h : ∀ i, i < n → ∃ x, P i x) : ∃ L : List α, L.length = n ∧ ∀ i x, L[i]? = some x → P i x := by
  induction n with
  | zero => exact ⟨[], rfl, fun i x hx => by simp at hx⟩
  | succ n ih =>
    obtain ⟨L, hl, hL⟩ := ih fun i hi => h i (by omega)
    obtain ⟨x, hx⟩ := h n (by omega)
    refine ⟨L ++ [x], by simp [hl], fun i y hy => ?_⟩
    rcases Nat.lt_or_ge i n with hi | hi
    · rw [List.getElem?_append_left (by omega)] at hy; exact hL i y hy
    · rw [List.getElem?_append_right (by omega)] at hy
      have : i - L.length = 0 := by
        have := (List.getElem?_eq_some_iff.1 hy).1
        simpa using this
      rw [this] at hy
      simp at hy
      subst hy
      obtain rfl : i = n := by omega
      exact hx
theorem list_map_of {α β : Type} {L : List α} {xs : List β} {f : β → α} (hl : xs.length = L.length) (h : ∀ (i : Nat) (x : β), xs[i]? = some x → L[i]? = some (f x)) : xs.map f = L := by
  refine List.ext_getElem? fun i => ?_
  rw [List.getElem?_map]
  rcases hx : xs[i]? with _ | x
  · have : xs.length ≤ i := List.getElem?_eq_none_iff.1 hx
    rw [List.getElem?_eq_none (by omega)]
    rfl
  · rw [h i x hx]
    rfl
theorem pels_of {W0 : World} {B : Nat} {A : Option Addr} {L : List Pv} (h : PropsR W0 B A L) : ∃ xs : List (Pel W0 B), xs.map (fun x => x.1.p) = L ∧ PelsAt W0 A xs := by
  obtain ⟨xs, hl, hx⟩ := list_of' (P := fun i (x : Pel W0 B) => L[i]? = some x.1.p ∧ ∃ b off, A = some ⟨b, off, none⟩ ∧ b < B ∧ CellsAt W0 b (off + i * 6) (pcells x.1.p x.1.A x.1.c x.1.A' x.1.c')) L.length fun i hi => by
    obtain ⟨b, off, e, hb, A1, c1, A2, c2, hc, h1, h2, h3, h4⟩ := h i _ (nthP_get hi)
    exact ⟨⟨⟨nthP L i, A1, c1, A2, c2⟩, h1, h2, h3, h4⟩, nthP_get hi, b, off, e, hb, hc⟩
  exact ⟨xs, list_map_of hl fun i x hi => (hx i x hi).1, fun k x hk => (hx k x hk).2⟩
theorem nels_of {W0 : World} {B : Nat} {A : Option Addr} {L : List Nv} (h : NodesR W0 B A L) : ∃ E : List (NEl W0 B), E.length = L.length ∧ NElsAt W0 A E ∧ (allN E).map (fun x => x.1.p) = L.flatMap (·.props) := by
  obtain ⟨E, hl, hx⟩ := list_of' (P := fun i (e : NEl W0 B) => ∃ n, L[i]? = some n ∧ e.ps.map (fun x => x.1.p) = n.props ∧ ∃ b off, A = some ⟨b, off, none⟩ ∧ b < B ∧ CellsAt W0 b (off + i * 3) #[.int .i64 e.id, .slice e.AL e.nl e.cL, .slice e.AP e.ps.length e.cP] ∧ PelsAt W0 e.AP e.ps ∧ e.ps.length ≤ 140737488351232) L.length fun i hi => by
    obtain ⟨b, off, e, hb, A1, c1, A2, c2, hc, h1, h2, h3, h4, h5, h6⟩ := h i _ (nthN_get hi)
    obtain ⟨xs, hx1, hx2⟩ := pels_of h2
    have hxl : xs.length = (nthN L i).props.length := by rw [← hx1, List.length_map]
    refine ⟨⟨(nthN L i).id, A1, (nthN L i).labels.length, c1, A2, c2, xs⟩, _, nthN_get hi, hx1, b, off, e, hb, ?_, hx2, by show xs.length ≤ _; omega⟩
    have hc' : CellsAt W0 b (off + i * 3) #[.int .i64 (nthN L i).id, .slice A1 (nthN L i).labels.length c1, .slice A2 (nthN L i).props.length c2] := hc
    rw [← hxl] at hc'
    exact hc'
  refine ⟨E, hl, fun k e hk => (hx k e hk).choose_spec.2.2, ?_⟩
  have hm : E.map (fun e => e.ps.map (fun x => x.1.p)) = L.map (·.props) := by
    refine List.ext_getElem? fun i => ?_
    rw [List.getElem?_map, List.getElem?_map]
    rcases he : E[i]? with _ | e
    · have : E.length ≤ i := List.getElem?_eq_none_iff.1 he
      rw [List.getElem?_eq_none (by omega)]
      rfl
    · obtain ⟨n, hn, hp, _⟩ := hx i e he
      rw [hn]
      show some (e.ps.map fun x => x.1.p) = some n.props
      rw [hp]
  unfold allN
  rw [List.map_flatMap, List.flatMap_def, hm, ← List.flatMap_def]
theorem rels_of {W0 : World} {B : Nat} {A : Option Addr} {L : List Rv} (h : RelsR W0 B A L) : ∃ E : List (REl W0 B), E.length = L.length ∧ RElsAt W0 A E ∧ (allR E).map (fun x => x.1.p) = L.flatMap (·.props) := by
  obtain ⟨E, hl, hx⟩ := list_of' (P := fun i (e : REl W0 B) => ∃ n, L[i]? = some n ∧ e.ps.map (fun x => x.1.p) = n.props ∧ ∃ b off, A = some ⟨b, off, none⟩ ∧ b < B ∧ CellsAt W0 b (off + i * 5) #[.int .i64 e.id, .string e.typ, .int .i64 e.src, .int .i64 e.dst, .slice e.AP e.ps.length e.cP] ∧ PelsAt W0 e.AP e.ps ∧ e.ps.length ≤ 140737488351232) L.length fun i hi => by
    obtain ⟨b, off, e, hb, A1, c1, hc, h2, h3, h4, h5, h6, h7⟩ := h i _ (nthR_get hi)
    obtain ⟨xs, hx1, hx2⟩ := pels_of h2
    have hxl : xs.length = (nthR L i).props.length := by rw [← hx1, List.length_map]
    refine ⟨⟨(nthR L i).id, (nthR L i).typ, (nthR L i).src, (nthR L i).dst, A1, c1, xs⟩, _, nthR_get hi, hx1, b, off, e, hb, ?_, hx2, by show xs.length ≤ _; omega⟩
    have hc' : CellsAt W0 b (off + i * 5) #[.int .i64 (nthR L i).id, .string (nthR L i).typ, .int .i64 (nthR L i).src, .int .i64 (nthR L i).dst, .slice A1 (nthR L i).props.length c1] := hc
    rw [← hxl] at hc'
    exact hc'
  refine ⟨E, hl, fun k e hk => (hx k e hk).choose_spec.2.2, ?_⟩
  have hm : E.map (fun e => e.ps.map (fun x => x.1.p)) = L.map (·.props) := by
    refine List.ext_getElem? fun i => ?_
    rw [List.getElem?_map, List.getElem?_map]
    rcases he : E[i]? with _ | e
    · have : E.length ≤ i := List.getElem?_eq_none_iff.1 he
      rw [List.getElem?_eq_none (by omega)]
      rfl
    · obtain ⟨n, hn, hp, _⟩ := hx i e he
      rw [hn]
      show some (e.ps.map fun x => x.1.p) = some n.props
      rw [hp]
  unfold allR
  rw [List.map_flatMap, List.flatMap_def, hm, ← List.flatMap_def]
/-- all properties of a graph, in order -/
def gprops (g : Gv) : List Pv := g.nodes.flatMap (·.props) ++ g.rels.flatMap (·.props)
/-- the sum of the bytes of values -/
def weightP (L : List Pv) : Int := L.foldl (fun s p => wrap64 (s + ((encV p.val).length : Int))) 0
theorem sumP_map {W0 : World} {B : Nat} (xs : List (Pel W0 B)) : sumP xs = weightP (xs.map fun x => x.1.p) := by
  unfold sumP weightP
  rw [List.foldl_map]
theorem keysOf_map {W0 : World} {B : Nat} (xs : List (Pel W0 B)) : keysOf xs = (xs.map fun x => x.1.p).map (·.key) := by simp [keysOf]
/-- Weight and the keys of a graph that reads -/
theorem GWeight_any (g : Gv) (A A' : Option Addr) (c c' B : Nat) (w : World) (h : GR w B g A A') (hB : B ≤ w.heap.size) :
    Calls Tryz.prog 30 #[.agg #[.slice A g.nodes.length c, .slice A' g.rels.length c']] w fun e w' => e = .returned (.int .i64 (weightP (gprops g))) ∧ Below w.heap.size w w' := by
  obtain ⟨EN, l1, n1, m1⟩ := nels_of h.1
  obtain ⟨ER, l2, n2, m2⟩ := rels_of h.2.1
  have := gWeight_any EN ER A A' c c' w n1 n2 hB (Below.refl _ _) (by have := h.2.2.1; omega) (by have := h.2.2.2; omega)
  rw [l1, l2, sumP_map, List.map_append, m1, m2] at this
  exact this
theorem GKeys_any (g : Gv) (A A' : Option Addr) (c c' B : Nat) (w : World) (h : GR w B g A A') (hB : B ≤ w.heap.size) (hall : (gprops g).length ≤ 1152921504606846976) :
    Calls Tryz.prog 56 #[.agg #[.slice A g.nodes.length c, .slice A' g.rels.length c'], .int .i64 3] w (NamesPost ((gprops g).map (·.key)) w) := by
  obtain ⟨EN, l1, n1, m1⟩ := nels_of h.1
  obtain ⟨ER, l2, n2, m2⟩ := rels_of h.2.1
  have hlen : (allN EN ++ allR ER).length = (gprops g).length := by
    have e1 := congrArg List.length m1
    have e2 := congrArg List.length m2
    rw [List.length_map] at e1 e2
    unfold gprops
    rw [List.length_append, List.length_append, e1, e2]
  have := names3_any EN ER A A' c c' w n1 n2 hB (by have := h.2.2.1; omega) (by have := h.2.2.2; omega) (by omega)
  rw [l1, l2, keysOf_map, List.map_append, m1, m2] at this
  exact this

end Go.Proofs.YthnaipgdjbaebaaGreat
