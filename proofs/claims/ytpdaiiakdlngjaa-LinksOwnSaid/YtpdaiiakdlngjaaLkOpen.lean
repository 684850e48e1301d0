/- How lists of structs, of links and chains that came in are opened. -/
import Derived.Test.YtpdaiiakdlngjaaProg
import Derived.Test.YtpdaiiakdlngjaaLkPure
import Derived.Test.YtpdaiiakdlngjaaOpen
import Derived.SliceStrings
import Derived.Deep.Slices
namespace Go.Proofs.Ytpdaiiakdlngjaa
open Go.ChangeShapes Go.WideShapes Go.ChangeAt Go.RowKit Go.Deep
set_option linter.unusedVariables false

theorem listR_of {α : Type} {P : Nat → α → Prop} (n : Nat) (h : ∀ i, i < n → ∃ x, P i x) : ∃ L : List α, L.length = n ∧ ∀ i x, L[i]? = some x → P i x := by
  induction n with
  | zero => exact ⟨[], rfl, fun i x hx => by simp at hx⟩
  | succ n ih =>
    obtain ⟨L, hl, hL⟩ := ih fun i hi => h i (by omega)
    obtain ⟨x, hx⟩ := h n (by omega)
    refine ⟨L ++ [x], by simp [hl], fun i y hy => ?_⟩
    rcases Nat.lt_or_ge i n with hi | hi
    · rw [List.getElem?_append_left (by omega)] at hy; exact hL i y hy
    · rw [List.getElem?_append_right (by omega)] at hy
      have : i - L.length = 0 := by
        have := (List.getElem?_eq_some_iff.1 hy).1
        simpa using this
      rw [this] at hy
      simp at hy
      subst hy
      obtain rfl : i = n := by omega
      exact hx
section
variable {H : Type} {enc : TypeId × Value → H} {P : Program}
theorem weightsR_of {e : TypeId} {l : List (DataW H)} {d : DataW H} (h : d ∈ l) : ∀ n ∈ d.weights P e, n ∈ DataW.weightsAll P e l := by
  induction l with
  | nil => cases h
  | cons x r ih =>
    intro n hn
    simp only [DataW.weightsAll, List.mem_append]
    rcases List.mem_cons.1 h with rfl | h
    · exact .inl hn
    · exact .inr (ih h n hn)
/-- a list of structs that came in -/
theorem open_rowsR {α : Type} {f : α → List Value} {w : World} {t e : TypeId} {fuel size bytes : Nat} {v : Value} {d : DataW H} {p : List MemPlace} (hf : RowF f size) (Q : α → Prop) (ht : P.underlying t = some (.slice e)) (hsz : P.cellsOf e = size) (hby : P.bytesOf e = bytes)
    (elem : ∀ (n : Nat) (cs : List Value) (d : DataW H) (p : List MemPlace), (∀ m ∈ d.weights P e, m ≤ reachBytes) → DataW.trod enc P w 0 (fun _ => true) true n e cs = some (d, p) → cs.length = size → ∃ o : α, f o = cs ∧ Q o)
    (hr : ∀ m ∈ d.weights P t, m ≤ reachBytes) (h : DataW.trod enc P w 0 (fun _ => true) true fuel t [v] = some (d, p)) :
    ∃ (A : Option Addr) (c : Nat) (L : List α), v = .slice A L.length c ∧ RR f size w w.heap.size A L ∧ L.length ≤ c ∧ c * bytes ≤ 140737488351232 ∧ ∀ x ∈ L, Q x := by
  rcases open_slice ht h with ⟨hcs, _⟩ | ⟨a, len, cap, m, n', D, Pl, hcs, _, hl, hm, hmm, hx, hcell⟩
  · simp only [List.cons.injEq, and_true] at hcs
    subst hcs
    exact ⟨none, 0, [], rfl, RR.empty _ _ _ _ _, Nat.le_refl _, by omega, fun x hx => by cases hx⟩
  · simp only [List.cons.injEq, and_true] at hcs
    subst hcs
    simp only [if_true] at hmm
    simp only [Prod.mk.injEq] at hx
    obtain ⟨hd, hp⟩ := hx
    rw [hsz] at hcell
    have hlen : (len + (m - len)) * bytes ≤ reachBytes := hr _ (by
      rw [hd]
      simp only [DataW.weights, ht, hby, List.length_map, List.length_range]
      exact List.mem_cons_self)
    have hone : ∀ k, k < len → ∃ o : α, (∀ j u, (f o)[j]? = some u → w.cell? ((a.add (k * size)).add j) = some u) ∧ Q o := by
      intro k hk
      obtain ⟨cs', hc, ht'⟩ := hcell k (by omega)
      obtain ⟨_, hcl, hat⟩ := World.cells?_some hc
      obtain ⟨o, ho, hq⟩ := elem _ cs' (D k) (Pl k) (fun x hx => hr x (by
        rw [hd]
        simp only [DataW.weights, ht, List.mem_cons, List.mem_append]
        refine .inr (.inl (weightsR_of (d := D k) ?_ x hx))
        exact List.mem_map.2 ⟨k, List.mem_range.2 hk, rfl⟩)) ht' hcl
      refine ⟨o, fun j u hu => ?_, hq⟩
      rw [ho] at hu
      have hj : j < size := by have := (List.getElem?_eq_some_iff.1 hu).1; omega
      exact (hat j hj).trans hu
    obtain ⟨L, hL, hP⟩ := listR_of len hone
    have hpos := hf.pos
    refine ⟨some a, cap, L, by rw [hL], ⟨flat_len hf.len _, fun h0 => ⟨a, rfl, ?_, fun j u hu => ?_⟩⟩, by omega, ?_, fun x hx => ?_⟩
    · have hx0 : L[0]? = some L[0] := List.getElem?_eq_getElem h0
      have hv0 : (f L[0])[0]? = some ((f L[0])[0]'(by rw [hf.len]; exact hpos)) := List.getElem?_eq_getElem _
      have := World.block_lt_of_cell? w _ ((hP 0 _ hx0).1 0 _ hv0)
      rwa [block_of_add, block_of_add] at this
    · have hu2 := hu
      rw [flat_get hf] at hu2
      cases hx : L[j / size]? with
      | none => rw [hx] at hu2; simp at hu2
      | some x =>
        rw [hx] at hu2
        simp only [Option.bind_some] at hu2
        have := (hP _ x hx).1 _ u hu2
        rw [add_of_add] at this
        rwa [Nat.mul_comm, Nat.div_add_mod] at this
    · simp only [reachBytes] at hlen
      have : len + (m - len) = cap := by omega
      rwa [this] at hlen
    · obtain ⟨k, hk⟩ := List.mem_iff_getElem?.1 hx
      exact (hP k x hk).2
end
section
variable {H : Type} {enc : TypeId × Value → H} {P : Program}
theorem open_intsR {w : World} {t e : TypeId} {fuel : Nat} {v : Value} {y : DataW H × List MemPlace} (ht : P.underlying t = some (.slice e)) (he : P.underlying e = some (.int .i64)) (hc : P.cellsOf e = 1) (hby : P.bytesOf e = 8)
    (hr : ∀ m ∈ y.1.weights P t, m ≤ reachBytes) (h : DataW.trod enc P w 0 (fun _ => true) true fuel t [v] = some y) :
    ∃ (A : Option Addr) (ns : List Int) (c : Nat), v = .slice A ns.length c ∧ RL ivl w w.heap.size A ns ∧ (∀ x ∈ ns, -9223372036854775808 ≤ x ∧ x ≤ 9223372036854775807) ∧ ns.length ≤ c ∧ c * 8 ≤ 140737488351232 := by
  rcases open_ints ht he hc h with ⟨hcs, _⟩ | ⟨x, l, c, zs, hcs, _, hl, hm, hz, hx, hcell, hwz⟩
  · simp only [List.cons.injEq, and_true] at hcs
    subst hcs
    exact ⟨none, [], 0, rfl, RL.empty _ _ _ _, (fun x hx => by cases hx), Nat.le_refl _, by omega⟩
  · simp only [List.cons.injEq, and_true] at hcs
    subst hcs
    simp only [if_true] at hz
    have hcap : c * 8 ≤ 140737488351232 := by
      have := hr (((lits (H := H) .i64 (zs.take l)).length + (lits (H := H) .i64 (zs.drop l)).length) * 8) (by rw [hx]; simp [DataW.weights, ht, hby])
      rw [lits_length, lits_length] at this
      simp only [List.length_take, List.length_drop, reachBytes] at this
      omega
    have hn : (zs.take l).length = l := by rw [List.length_take]; omega
    refine ⟨some x, zs.take l, c, by rw [hn], ⟨⟨by simp, fun h0 => ?_⟩, fun z _ => ivl_ok z⟩, fun z hz' => bounds_i64 (hwz z (List.mem_of_mem_take hz')), by rw [hn]; omega, hcap⟩
    rw [hn] at h0
    refine ⟨x, rfl, ?_, fun j u hj => ?_⟩
    · have := cell_lt (hcell 0 (by omega))
      rwa [block_of_add] at this
    · have hjn : j < l := by
        have := (List.getElem?_eq_some_iff.1 hj).1
        rw [List.length_map, hn] at this; exact this
      rw [hcell j (by omega)]
      have hj' : j < zs.length := by omega
      simp only [List.getElem?_map, List.getElem?_take_of_lt hjn, List.getElem?_eq_getElem hj', Option.map_some, Option.some.injEq] at hj
      rw [← hj]
      simp [List.getD_eq_getElem?_getD, List.getElem?_eq_getElem hj']

end
section
variable {H : Type} {enc : TypeId × Value → H}
theorem lk_cells7 : Try.prog.cellsOf 46 = 7 := by kernel_rfl
theorem lk_bytes : Try.prog.bytesOf 46 = 56 := by kernel_rfl
theorem lk_int1 : Try.prog.cellsOf 3 = 1 := by kernel_rfl
theorem lk_bool1 : Try.prog.cellsOf 4 = 1 := by kernel_rfl
theorem link_of {w : World} (n : Nat) (cs : List Value) (d : DataW H) (p : List MemPlace)
    (h : DataW.trod enc Try.prog w 0 (fun _ => true) true n 46 cs = some (d, p)) : ∃ o : LkC, lkc o = cs ∧ True := by
  obtain ⟨xs, m, _, hx, hl, hlen, hg⟩ := DataW.trod_struct Try.underlying46 h
  rw [lk_cells7] at hl
  match cs, hl, xs, hlen with
  | [k0, k1, k2, k3, k4, k5, k6], _, [y0, y1, y2, y3, y4, y5, y6], _ =>
    have g0 : DataW.trod enc Try.prog w 0 (fun _ => true) true m 4 [k0] = some y0 := by simpa [lk_bool1] using hg 0 _ rfl
    have g1 : DataW.trod enc Try.prog w 0 (fun _ => true) true m 3 [k1] = some y1 := by simpa [lk_int1] using hg 1 _ rfl
    have g2 : DataW.trod enc Try.prog w 0 (fun _ => true) true m 3 [k2] = some y2 := by simpa [lk_int1] using hg 2 _ rfl
    have g3 : DataW.trod enc Try.prog w 0 (fun _ => true) true m 3 [k3] = some y3 := by simpa [lk_int1] using hg 3 _ rfl
    have g4 : DataW.trod enc Try.prog w 0 (fun _ => true) true m 3 [k4] = some y4 := by simpa [lk_int1] using hg 4 _ rfl
    have g5 : DataW.trod enc Try.prog w 0 (fun _ => true) true m 3 [k5] = some y5 := by simpa [lk_int1] using hg 5 _ rfl
    have g6 : DataW.trod enc Try.prog w 0 (fun _ => true) true m 3 [k6] = some y6 := by simpa [lk_int1] using hg 6 _ rfl
    obtain ⟨a0, e0, _⟩ := DataW.trod_bool Try.underlying4 g0
    obtain ⟨a1, e1, _, _⟩ := DataW.trod_int Try.underlying3 g1
    obtain ⟨a2, e2, _, _⟩ := DataW.trod_int Try.underlying3 g2
    obtain ⟨a3, e3, _, _⟩ := DataW.trod_int Try.underlying3 g3
    obtain ⟨a4, e4, _, _⟩ := DataW.trod_int Try.underlying3 g4
    obtain ⟨a5, e5, _, _⟩ := DataW.trod_int Try.underlying3 g5
    obtain ⟨a6, e6, _, _⟩ := DataW.trod_int Try.underlying3 g6
    simp only [List.cons.injEq, and_true] at e0 e1 e2 e3 e4 e5 e6
    subst e0 e1 e2 e3 e4 e5 e6
    exact ⟨⟨a0, a1, a2, a3, a4, a5, a6⟩, rfl, trivial⟩
/-- a list of links that came in -/
theorem open_links {w : World} {d : DataW H} {v : Value} {p : List MemPlace} {b0 : Nat} {r : Reach} (hv : Value.okWide Try.prog w r b0 22 v)
    (hr : ∀ m ∈ d.weights Try.prog 22, m ≤ reachBytes) (h : DataW.Trod enc Try.prog w 0 (fun _ => true) true 22 v d p) (hlt : ∀ x ∈ p, x.block < w.heap.size) :
    ∃ (A : Option Addr) (L : List LkC) (c : Nat), v = .slice A L.length c ∧ RR lkc 7 w w.heap.size A L ∧ L.length * 56 ≤ 140737488351232 := by
  obtain ⟨A0, n0, c0, rfl⟩ := okWide_slice Try.underlying22 hv
  obtain ⟨fuel, hfu⟩ := h
  have hfu : DataW.trod enc Try.prog w 0 (fun _ => true) true fuel 22 [Value.slice A0 n0 c0] = some (d, p) := by simpa [Value.cells] using hfu
  obtain ⟨A, c, L, e, hrr, hlc, hcb, -⟩ := open_rowsR lkc_f (fun _ => True) Try.underlying22 lk_cells7 lk_bytes (fun n cs d p _ ht _ => link_of n cs d p ht) hr hfu
  exact ⟨A, L, c, e, hrr, by omega⟩
theorem lk_ints1 : Try.prog.cellsOf 26 = 1 := by kernel_rfl
/-- a chain that came in -/
theorem open_chain {w : World} {d : DataW H} {v : Value} {p : List MemPlace} {b0 : Nat} {r : Reach} (hv : Value.okWide Try.prog w r b0 31 v)
    (hr : ∀ m ∈ d.weights Try.prog 31, m ≤ reachBytes) (h : DataW.Trod enc Try.prog w 0 (fun _ => true) true 31 v d p) (hlt : ∀ x ∈ p, x.block < w.heap.size) :
    ∃ (n : Int) (A : Option Addr) (O : List Int) (c : Nat), v = .agg #[.int .i64 n, .slice A O.length c] ∧ RL ivl w w.heap.size A O ∧ (∀ x ∈ O, inI x) ∧ O.length ≤ c ∧ c * 8 ≤ 140737488351232 := by
  have hs := Try.underlying31
  obtain ⟨cs, rfl, hsz⟩ := okWide_struct hs hv
  obtain ⟨l⟩ := cs
  have hl : l.length = 2 := by have := hsz.trans (by kernel_rfl : Try.prog.cellsOf 31 = 2); simpa using this
  obtain ⟨fuel, hf⟩ := h
  obtain ⟨ys, n, _, hx, _, hlen, hg⟩ := DataW.trod_struct hs hf
  obtain ⟨k0, k1, rfl⟩ : ∃ k0 k1, l = [k0, k1] := by
    rcases l with _ | ⟨c0, _ | ⟨c1, _ | ⟨c2, r⟩⟩⟩ <;> simp at hl
    exact ⟨c0, c1, rfl⟩
  have hl3 : ys.length = 2 := hlen
  obtain ⟨y0, y1, rfl⟩ : ∃ y0 y1, ys = [y0, y1] := by
    rcases ys with _ | ⟨c0, _ | ⟨c1, _ | ⟨c2, r⟩⟩⟩ <;> simp at hl3
    exact ⟨c0, c1, rfl⟩
  simp only [Prod.mk.injEq] at hx
  obtain ⟨hd, hp⟩ := hx
  have g0 : DataW.trod enc Try.prog w 0 (fun _ => true) true n 3 [k0] = some y0 := by simpa [Value.cells, lk_int1] using hg 0 _ rfl
  have g1 : DataW.trod enc Try.prog w 0 (fun _ => true) true n 26 [k1] = some y1 := by simpa [Value.cells, lk_ints1] using hg 1 _ rfl
  have hwt : ∀ m, m ∈ y1.1.weights Try.prog 26 → m ≤ reachBytes := fun m hm => hr m (by
    rw [hd]
    simp only [DataW.weights, hs, List.map_cons, List.map_nil]
    simp only [DataW.weightsEach, List.mem_append]
    exact .inr (.inl hm))
  obtain ⟨a, e0, _, wa⟩ := DataW.trod_int Try.underlying3 g0
  simp only [List.cons.injEq, and_true] at e0
  subst e0
  obtain ⟨A, O, c, rfl, hrl, hbd, hlc, hcb⟩ := open_intsR Try.underlying26 Try.underlying3 lk_int1 (by kernel_rfl) hwt g1
  exact ⟨a, A, O, c, rfl, hrl, hbd, hlc, hcb⟩
end
end Go.Proofs.Ytpdaiiakdlngjaa
