/- How a law's values are opened. -/
import Derived.Test.YtgpahglmhnnobaaDoorValCheckA
import Derived.Test.YtgpahglmhnnobaaDoorOpen
import Derived.SliceStrings
namespace Go.Proofs.YtgpahglmhnnobaaDoor
open Go.ChangeShapes Go.WideShapes Go.ChangeAt Go.RowKit
set_option linter.unusedVariables false

section
variable {H : Type} {enc : TypeId × Value → H} {P : Program}
theorem spot_none {w : World} {x : Addr} {v : Value} (h : w.cell? x = some v) : x.spot = none := World.cell?_spot h

theorem open_i64s {w : World} {t e : TypeId} {fuel : Nat} {v : Value} {y : DataW H × List MemPlace} (ht : P.underlying t = some (.slice e)) (he : P.underlying e = some (.int .i64)) (hc : P.cellsOf e = 1) (hby : P.bytesOf e = 8)
    (hr : ∀ m ∈ y.1.weights P t, m ≤ reachBytes) (h : DataW.trod enc P w 0 (fun _ => true) true fuel t [v] = some y) :
    ∃ (A : Option Addr) (ns : List Int) (c : Nat), v = .slice A ns.length c ∧ RL ivl w w.heap.size A ns ∧ (∀ x ∈ ns, -9223372036854775808 ≤ x ∧ x ≤ 9223372036854775807) ∧ ns.length * 8 ≤ 140737488351232 := by
  rcases open_ints ht he hc h with ⟨hcs, _⟩ | ⟨x, l, c, zs, hcs, _, hl, hm, hz, hx, hcell, hwz⟩
  · simp only [List.cons.injEq, and_true] at hcs
    subst hcs
    exact ⟨none, [], 0, rfl, RL.empty _ _ _ _, (fun x hx => by cases hx), by simp⟩
  · simp only [List.cons.injEq, and_true] at hcs
    subst hcs
    simp only [if_true] at hz
    have hcap : c * 8 ≤ 140737488351232 := by
      have := hr (((lits (H := H) .i64 (zs.take l)).length + (lits (H := H) .i64 (zs.drop l)).length) * 8) (by rw [hx]; simp [DataW.weights, ht, hby])
      rw [lits_length, lits_length] at this
      simp only [List.length_take, List.length_drop, reachBytes] at this
      omega
    have hn : (zs.take l).length = l := by rw [List.length_take]; omega
    refine ⟨some x, zs.take l, c, by rw [hn], ⟨⟨by simp, fun h0 => ?_⟩, fun z _ => ivl_ok z⟩, fun z hz' => bounds_i64 (hwz z (List.mem_of_mem_take hz')), by rw [hn]; omega⟩
    rw [hn] at h0
    refine ⟨x, rfl, ?_, fun j u hj => ?_⟩
    · have := cell_lt (hcell 0 (by omega))
      rwa [block_of_add] at this
    · have hjn : j < l := by
        have := (List.getElem?_eq_some_iff.1 hj).1
        rw [List.length_map, hn] at this; exact this
      rw [hcell j (by omega)]
      have hj' : j < zs.length := by omega
      simp only [List.getElem?_map, List.getElem?_take_of_lt hjn, List.getElem?_eq_getElem hj', Option.map_some, Option.some.injEq] at hj
      rw [← hj]
      simp [List.getD_eq_getElem?_getD, List.getElem?_eq_getElem hj']

theorem weights_of {e : TypeId} {l : List (DataW H)} {d : DataW H} (h : d ∈ l) : ∀ n ∈ d.weights P e, n ∈ DataW.weightsAll P e l := by
  induction l with
  | nil => cases h
  | cons x r ih =>
    intro n hn
    simp only [DataW.weightsAll, List.mem_append]
    rcases List.mem_cons.1 h with rfl | h
    · exact .inl hn
    · exact .inr (ih h n hn)

theorem open_strs1 {w : World} {t e : TypeId} {fuel : Nat} {v : Value} {y : DataW H × List MemPlace} (ht : P.underlying t = some (.slice e)) (he : P.underlying e = some .string) (hc : P.cellsOf e = 1) (hby : P.bytesOf e = 16)
    (hr : ∀ m ∈ y.1.weights P t, m ≤ reachBytes) (h : DataW.trod enc P w 0 (fun _ => true) true fuel t [v] = some y) :
    ∃ (A : Option Addr) (ts : List ByteArray) (c : Nat), v = .slice A ts.length c ∧ RL svl w w.heap.size A ts ∧ (∀ x ∈ ts, x.size ≤ 140737488351232) ∧ ts.length * 16 ≤ 140737488351232 := by
  rcases open_strings ht he hc h with ⟨hcs, _⟩ | ⟨x, l, c, zs, hcs, _, hl, hm, hz, hx, hcell, hwz⟩
  · simp only [List.cons.injEq, and_true] at hcs
    subst hcs
    exact ⟨none, [], 0, rfl, RL.empty _ _ _ _, (fun x hx => by cases hx), by simp⟩
  · simp only [List.cons.injEq, and_true] at hcs
    subst hcs
    simp only [if_true] at hz
    have hcap : c * 16 ≤ 140737488351232 := by
      have := hr (((strs (H := H) (zs.take l)).length + (strs (H := H) (zs.drop l)).length) * 16) (by rw [hx]; simp [DataW.weights, ht, hby])
      simp only [strs, List.length_map, List.length_take, List.length_drop, reachBytes] at this
      omega
    have hn : (zs.take l).length = l := by rw [List.length_take]; omega
    refine ⟨some x, zs.take l, c, by rw [hn], ⟨⟨by simp, fun h0 => ?_⟩, fun z _ => svl_ok z⟩, fun z hz' => ?_, by rw [hn]; omega⟩
    · rw [hn] at h0
      refine ⟨x, rfl, ?_, fun j u hj => ?_⟩
      · have := cell_lt (hcell 0 (by omega))
        rwa [block_of_add] at this
      · have hjn : j < l := by
          have := (List.getElem?_eq_some_iff.1 hj).1
          rw [List.length_map, hn] at this; exact this
        rw [hcell j (by omega)]
        have hj' : j < zs.length := by omega
        simp only [List.getElem?_map, List.getElem?_take_of_lt hjn, List.getElem?_eq_getElem hj', Option.map_some, Option.some.injEq] at hj
        rw [← hj]
        simp [List.getD_eq_getElem?_getD, List.getElem?_eq_getElem hj']
    · have := hr z.data.toList.length (by
        rw [hx]
        simp only [DataW.weights, ht, List.mem_cons, List.mem_append]
        refine .inr (.inl (weights_of (d := .lit (.string z.data.toList)) ?_ _ (by simp [DataW.weights])))
        exact List.mem_map.2 ⟨z, hz', rfl⟩)
      simp only [reachBytes] at this
      have h2 : z.data.toList.length = z.size := by rw [Array.length_toList]; rfl
      omega
end

section
variable {H : Type} {enc : TypeId × Value → H}
theorem cells_val : Tryd.prog.cellsOf 26 = 5 := by kernel_rfl
theorem one_i : Tryd.prog.cellsOf 3 = 1 := by kernel_rfl
theorem one_n : Tryd.prog.cellsOf 2 = 1 := by kernel_rfl
theorem one_s : Tryd.prog.cellsOf 9 = 1 := by kernel_rfl
theorem one_ns : Tryd.prog.cellsOf 23 = 1 := by kernel_rfl
theorem one_ts : Tryd.prog.cellsOf 24 = 1 := by kernel_rfl
set_option maxRecDepth 100000 in
/-- a value that came in -/
theorem open_value {w : World} {d : DataW H} {v : Value} {p : List MemPlace} {b0 : Nat} {r : Reach} (hv : Value.okWide Tryd.prog w r b0 26 v)
    (hr : ∀ m ∈ d.weights Tryd.prog 26, m ≤ reachBytes) (h : DataW.Trod enc Tryd.prog w 0 (fun _ => true) true 26 v d p) (hlt : ∀ x ∈ p, x.block < w.heap.size) :
    ∃ (val : Vv) (A : Option Addr) (c : Nat) (A' : Option Addr) (c' : Nat), v = vagg val A c A' c' ∧ VR w w.heap.size val (vagg val A c A' c') := by
  have hs := Tryd.underlying26
  obtain ⟨cs, rfl, hsz⟩ := okWide_struct hs hv
  obtain ⟨l⟩ := cs
  have hl5 : l.length = 5 := by have := hsz.trans cells_val; simpa using this
  obtain ⟨fuel, hf⟩ := h
  obtain ⟨ys, n, _, hx, _, hlen, hg⟩ := DataW.trod_struct hs hf
  obtain ⟨k0, k1, k2, k3, k4, rfl⟩ : ∃ a b c d e, l = [a, b, c, d, e] := by
    rcases l with _ | ⟨a, _ | ⟨b, _ | ⟨c, _ | ⟨d, _ | ⟨e, _ | ⟨f, r⟩⟩⟩⟩⟩⟩ <;> simp at hl5
    exact ⟨a, b, c, d, e, rfl⟩
  have hl5' : ys.length = 5 := hlen
  obtain ⟨y0, y1, y2, y3, y4, rfl⟩ : ∃ a b c d e, ys = [a, b, c, d, e] := by
    rcases ys with _ | ⟨a, _ | ⟨b, _ | ⟨c, _ | ⟨d, _ | ⟨e, _ | ⟨f, r⟩⟩⟩⟩⟩⟩ <;> simp at hl5'
    exact ⟨a, b, c, d, e, rfl⟩
  simp only [Prod.mk.injEq] at hx
  obtain ⟨hd, hp⟩ := hx
  have g0 := hg 0 _ rfl
  have g1 := hg 1 _ rfl
  have g2 := hg 2 _ rfl
  have g3 := hg 3 _ rfl
  have g4 := hg 4 _ rfl
  have g0 : DataW.trod enc Tryd.prog w 0 (fun _ => true) true n 3 [k0] = some y0 := by simpa [Value.cells, one_i] using g0
  have g1 : DataW.trod enc Tryd.prog w 0 (fun _ => true) true n 2 [k1] = some y1 := by simpa [Value.cells, one_n] using g1
  have g2 : DataW.trod enc Tryd.prog w 0 (fun _ => true) true n 9 [k2] = some y2 := by simpa [Value.cells, one_s] using g2
  have g3 : DataW.trod enc Tryd.prog w 0 (fun _ => true) true n 23 [k3] = some y3 := by simpa [Value.cells, one_ns] using g3
  have g4 : DataW.trod enc Tryd.prog w 0 (fun _ => true) true n 24 [k4] = some y4 := by simpa [Value.cells, one_ts] using g4
  have hwt : ∀ m, m ∈ y2.1.weights Tryd.prog 9 ∨ m ∈ y3.1.weights Tryd.prog 23 ∨ m ∈ y4.1.weights Tryd.prog 24 → m ≤ reachBytes := fun m hm => hr m (by
    rw [hd]
    simp only [DataW.weights, hs, List.map_cons, List.map_nil]
    simp only [DataW.weightsEach, List.mem_append]
    rcases hm with hm | hm | hm
    · exact .inr (.inr (.inl hm))
    · exact .inr (.inr (.inr (.inl hm)))
    · exact .inr (.inr (.inr (.inr (.inl hm)))))
  obtain ⟨a, e0, _, wa⟩ := DataW.trod_int Tryd.underlying3 g0
  obtain ⟨b, e1, _, wb⟩ := DataW.trod_int Tryd.underlying2 g1
  obtain ⟨s, e2, e2', _⟩ := DataW.trod_string Tryd.underlying9 g2
  simp only [List.cons.injEq, and_true] at e0 e1 e2
  subst e0 e1 e2
  obtain ⟨A, ns, c, rfl, r3, n3, b3⟩ := open_i64s Tryd.underlying23 Tryd.underlying2 one_n (by kernel_rfl) (fun m hm => hwt m (.inr (.inl hm))) g3
  obtain ⟨A', ts, c', rfl, r4, n4, b4⟩ := open_strs1 Tryd.underlying24 Tryd.underlying9 one_s (by kernel_rfl) (fun m hm => hwt m (.inr (.inr hm))) g4
  have hss : s.size ≤ 140737488351232 := by
    have := hwt s.data.toList.length (.inl (by rw [e2']; simp [DataW.weights]))
    simp only [reachBytes] at this
    have h2 : s.data.toList.length = s.size := by rw [Array.length_toList]; rfl
    omega
  have ba := bounds_i64 wa
  have bb := bounds_i64 wb
  exact ⟨⟨a, b, s, ns, ts⟩, A, c, A', c', rfl, A, c, A', c', rfl, r3, r4, ⟨ba.1, ba.2, bb.1, bb.2, hss, n3, b3, n4, b4⟩⟩
end
end Go.Proofs.YtgpahglmhnnobaaDoor
