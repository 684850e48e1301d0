/- How a node's record is opened. -/
import Derived.Test.YtpoaokkmmoeekaaRcOpen
import Derived.SliceStrings
namespace Go.Proofs.Ytpoaokkmmoeekaa
open Go.ChangeShapes Go.WideShapes Go.ChangeAt Go.RowKit
set_option linter.unusedVariables false

section
variable {H : Type} {enc : TypeId × Value → H} {P : Program}
theorem open_intsC {w : World} {t e : TypeId} {fuel : Nat} {v : Value} {y : DataW H × List MemPlace} (ht : P.underlying t = some (.slice e)) (he : P.underlying e = some (.int .i64)) (hc : P.cellsOf e = 1) (hby : P.bytesOf e = 8)
    (hr : ∀ m ∈ y.1.weights P t, m ≤ reachBytes) (h : DataW.trod enc P w 0 (fun _ => true) true fuel t [v] = some y) :
    ∃ (A : Option Addr) (ns : List Int) (c : Nat), v = .slice A ns.length c ∧ RL ivl w w.heap.size A ns ∧ (∀ x ∈ ns, -9223372036854775808 ≤ x ∧ x ≤ 9223372036854775807) ∧ ns.length ≤ c ∧ c * 8 ≤ 140737488351232 := by
  rcases open_ints ht he hc h with ⟨hcs, _⟩ | ⟨x, l, c, zs, hcs, _, hl, hm, hz, hx, hcell, hwz⟩
  · simp only [List.cons.injEq, and_true] at hcs
    subst hcs
    exact ⟨none, [], 0, rfl, RL.empty _ _ _ _, (fun x hx => by cases hx), Nat.le_refl _, by omega⟩
  · simp only [List.cons.injEq, and_true] at hcs
    subst hcs
    simp only [if_true] at hz
    have hcap : c * 8 ≤ 140737488351232 := by
      have := hr (((lits (H := H) .i64 (zs.take l)).length + (lits (H := H) .i64 (zs.drop l)).length) * 8) (by rw [hx]; simp [DataW.weights, ht, hby])
      rw [lits_length, lits_length] at this
      simp only [List.length_take, List.length_drop, reachBytes] at this
      omega
    have hn : (zs.take l).length = l := by rw [List.length_take]; omega
    refine ⟨some x, zs.take l, c, by rw [hn], ⟨⟨by simp, fun h0 => ?_⟩, fun z _ => ivl_ok z⟩, fun z hz' => bounds_i64 (hwz z (List.mem_of_mem_take hz')), by rw [hn]; omega, hcap⟩
    rw [hn] at h0
    refine ⟨x, rfl, ?_, fun j u hj => ?_⟩
    · have := cell_lt (hcell 0 (by omega))
      rwa [block_of_add] at this
    · have hjn : j < l := by
        have := (List.getElem?_eq_some_iff.1 hj).1
        rw [List.length_map, hn] at this; exact this
      rw [hcell j (by omega)]
      have hj' : j < zs.length := by omega
      simp only [List.getElem?_map, List.getElem?_take_of_lt hjn, List.getElem?_eq_getElem hj', Option.map_some, Option.some.injEq] at hj
      rw [← hj]
      simp [List.getD_eq_getElem?_getD, List.getElem?_eq_getElem hj']

end
section
variable {H : Type} {enc : TypeId × Value → H}
set_option maxRecDepth 100000 in
theorem open_node {w : World} {d : DataW H} {v : Value} {p : List MemPlace} {b0 : Nat} {r : Reach} (hv : Value.okWide Try.prog w r b0 24 v)
    (hr : ∀ m ∈ d.weights Try.prog 24, m ≤ reachBytes) (h : DataW.Trod enc Try.prog w 0 (fun _ => true) true 24 v d p) (hlt : ∀ x ∈ p, x.block < w.heap.size) :
    ∃ (a q : Int) (A : Option Addr) (L : List Int) (c : Nat), v = .agg #[.int .i64 a, .int .i64 q, .slice A L.length c] ∧ (isI a ∧ isI q ∧ ∀ x ∈ L, isI x) ∧ RL ivl w w.heap.size A L ∧ L.length ≤ c ∧ c * 8 ≤ 140737488351232 := by
  have hs := Try.underlying24
  obtain ⟨cs, rfl, hsz⟩ := okWide_struct hs hv
  obtain ⟨l⟩ := cs
  have hl : l.length = 3 := by have := hsz.trans cells_node; simpa using this
  obtain ⟨fuel, hf⟩ := h
  obtain ⟨ys, n, _, hx, _, hlen, hg⟩ := DataW.trod_struct hs hf
  obtain ⟨k0, k1, k2, rfl⟩ : ∃ k0 k1 k2, l = [k0, k1, k2] := by
    rcases l with _ | ⟨c0, _ | ⟨c1, _ | ⟨c2, _ | ⟨c3, r⟩⟩⟩⟩ <;> simp at hl
    exact ⟨c0, c1, c2, rfl⟩
  have hl3 : ys.length = 3 := hlen
  obtain ⟨y0, y1, y2, rfl⟩ : ∃ y0 y1 y2, ys = [y0, y1, y2] := by
    rcases ys with _ | ⟨c0, _ | ⟨c1, _ | ⟨c2, _ | ⟨c3, r⟩⟩⟩⟩ <;> simp at hl3
    exact ⟨c0, c1, c2, rfl⟩
  simp only [Prod.mk.injEq] at hx
  obtain ⟨hd, hp⟩ := hx
  have g0 := hg 0 _ rfl
  have g1 := hg 1 _ rfl
  have g2 := hg 2 _ rfl
  have g0 : DataW.trod enc Try.prog w 0 (fun _ => true) true n 3 [k0] = some y0 := by simpa [Value.cells, one_int] using g0
  have g1 : DataW.trod enc Try.prog w 0 (fun _ => true) true n 3 [k1] = some y1 := by simpa [Value.cells, one_int] using g1
  have g2 : DataW.trod enc Try.prog w 0 (fun _ => true) true n 22 [k2] = some y2 := by simpa [Value.cells, one_ints] using g2
  have hwt : ∀ m, m ∈ y2.1.weights Try.prog 22 → m ≤ reachBytes := fun m hm => hr m (by
    rw [hd]
    simp only [DataW.weights, hs, List.map_cons, List.map_nil]
    simp only [DataW.weightsEach, List.mem_append]
    exact .inr (.inr (.inl hm)))
  obtain ⟨a, e0, _, wa⟩ := DataW.trod_int Try.underlying3 g0
  obtain ⟨q, e1, _, wq⟩ := DataW.trod_int Try.underlying3 g1
  simp only [List.cons.injEq, and_true] at e0 e1
  subst e0 e1
  obtain ⟨A, ns, c, rfl, r3, n3, b3, b4⟩ := open_intsC Try.underlying22 Try.underlying3 one_int (by kernel_rfl) hwt g2
  exact ⟨a, q, A, ns, c, rfl, ⟨isI_of (bounds_i64 wa), isI_of (bounds_i64 wq), fun x hx => isI_of (n3 x hx)⟩, r3, b3, b4⟩
end
end Go.Proofs.Ytpoaokkmmoeekaa
