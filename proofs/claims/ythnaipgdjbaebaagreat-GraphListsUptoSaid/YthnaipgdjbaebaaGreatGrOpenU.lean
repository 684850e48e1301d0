/- A graph that came in, of the second form: how many names it holds at most. -/
import Derived.Test.YthnaipgdjbaebaaGreatGrOpenG
import Derived.Test.YthnaipgdjbaebaaGreatGrEls
import Derived.Test.YthnaipgdjbaebaaGreatBulk
namespace Go.Proofs.YthnaipgdjbaebaaGreat
open Go.ChangeShapes Go.WideShapes Go.ChangeAt Go.RowKit Go.Deep
set_option linter.unusedVariables false

theorem sum_ones {α : Type} : ∀ L : List α, (L.map fun _ => 1).sum = L.length
  | [] => rfl
  | x :: l => by rw [List.map_cons, List.sum_cons, sum_ones l, List.length_cons]; omega
/-- few names -/
def GFew (g : Gv) : Prop := (g.nodes.flatMap (·.labels)).length ≤ 1048576 ∧ (gprops g).length ≤ 1048576 ∧ g.rels.length ≤ 1048576
theorem sum_node : ∀ L : List Nv, (L.map fun n => n.labels.length + n.props.length).sum = (L.flatMap (·.labels)).length + (L.flatMap (·.props)).length
  | [] => rfl
  | x :: l => by rw [List.map_cons, List.sum_cons, sum_node l, List.flatMap_cons, List.flatMap_cons, List.length_append, List.length_append]; omega
theorem sum_rel : ∀ L : List Rv, (L.map fun r => 1 + r.props.length).sum = L.length + (L.flatMap (·.props)).length
  | [] => rfl
  | x :: l => by rw [List.map_cons, List.sum_cons, sum_rel l, List.flatMap_cons, List.length_append, List.length_cons]; omega
theorem GFew.of {g : Gv} (h1 : (g.nodes.map fun n => n.labels.length + n.props.length).sum ≤ 1048576) (h2 : (g.nodes.map fun n => n.labels.length + n.props.length).sum + (g.rels.map fun r => 1 + r.props.length).sum ≤ 1048576) : GFew g := by
  rw [sum_node] at h1 h2
  rw [sum_rel] at h2
  exact ⟨by omega, by unfold gprops; rw [List.length_append]; omega, by omega⟩
section
variable {H : Type} {enc : TypeId × Value → H}
theorem sum_bulk {α : Type} {f : α → Nat} : ∀ {L : List α} {D : Nat → DataW H}, (∀ k x, L[k]? = some x → f x ≤ Rows.uptoBulk (D k)) → (L.map f).sum ≤ Rows.uptoBulkAll ((List.range L.length).map D)
  | [], D, _ => by simp
  | a :: l, D, h => by
    have h0 := h 0 a rfl
    have ih := sum_bulk (L := l) (D := fun k => D (k + 1)) fun k x hx => h (k + 1) x (by simpa using hx)
    rw [List.length_cons, List.range_succ_eq_map, List.map_cons, List.sum_cons, List.map_cons, List.map_map]
    simp only [Rows.uptoBulkAll]
    have e : (List.range l.length).map (D ∘ Nat.succ) = (List.range l.length).map fun k => D (k + 1) := rfl
    rw [e]
    omega
theorem strs_bulk {P : Program} {w : World} {t e : TypeId} {fuel n c : Nat} {A : Option Addr} {y : DataW H × List MemPlace} (ht : P.underlying t = some (.slice e)) (he : P.underlying e = some .string) (hc : P.cellsOf e = 1)
    (h : DataW.trod enc P w 0 (fun _ => true) true fuel t [.slice A n c] = some y) : n + 1 ≤ Rows.uptoBulk y.1 := by
  rcases open_strings ht he hc h with ⟨hcs, _⟩ | ⟨x, l, c, zs, hcs, _, hl, hm, hz, hx, hcell, hwz⟩
  · simp only [List.cons.injEq, and_true, Value.slice.injEq] at hcs
    obtain ⟨rfl, rfl, rfl⟩ := hcs
    have := bulk_one y.1
    omega
  · simp only [List.cons.injEq, and_true, Value.slice.injEq] at hcs
    obtain ⟨rfl, rfl, rfl⟩ := hcs
    simp only [if_true] at hz
    rw [hx]
    have := bulk_length (strs (H := H) (zs.take n))
    have h2 : (strs (H := H) (zs.take n)).length = n := by simp only [strs, List.length_map, List.length_take]; omega
    rw [h2] at this
    simp only [← bulk_slice]
    omega
/-- a list of structs that came in -/
theorem open_rowsU {α : Type} {P : Program} {w : World} {t e : TypeId} {fuel size bytes : Nat} {v : Value} {d : DataW H} {p : List MemPlace} (at_ : World → Nat → Nat → Nat → α → Prop) (Q : α → Prop) (f : α → Nat) (ht : P.underlying t = some (.slice e)) (hsz : P.cellsOf e = size) (hs0 : 0 < size) (hby : P.bytesOf e = bytes)
    (elem : ∀ (n b off : Nat) (cs : List Value) (d : DataW H) (p : List MemPlace), (∀ m ∈ d.weights P e, m ≤ reachBytes) → DataW.trod enc P w 0 (fun _ => true) true n e cs = some (d, p) → cs.length = size → (∀ j u, cs[j]? = some u → w.cell? ⟨b, off + j, none⟩ = some u) → ∃ o : α, at_ w w.heap.size b off o ∧ Q o ∧ f o ≤ Rows.uptoBulk d)
    (hr : ∀ m ∈ d.weights P t, m ≤ reachBytes) (h : DataW.trod enc P w 0 (fun _ => true) true fuel t [v] = some (d, p)) :
    ∃ (A : Option Addr) (c : Nat) (L : List α), v = .slice A L.length c ∧ Rows size at_ w w.heap.size A L ∧ L.length * bytes ≤ 140737488351232 ∧ (∀ x ∈ L, Q x) ∧ (L.map f).sum ≤ Rows.uptoBulk d := by
  rcases open_slice ht h with ⟨hcs, _⟩ | ⟨a, len, cap, m, n', D, Pl, hcs, _, hl, hm, hmm, hx, hcell⟩
  · simp only [List.cons.injEq, and_true] at hcs
    subst hcs
    exact ⟨none, 0, [], rfl, Rows.nil _ _ _ _ _, by simp, (fun x hx => by cases hx), by simp⟩
  · simp only [List.cons.injEq, and_true] at hcs
    subst hcs
    simp only [if_true] at hmm
    simp only [Prod.mk.injEq] at hx
    obtain ⟨hd, hp⟩ := hx
    rw [hsz] at hcell
    have hlen : (len + (m - len)) * bytes ≤ reachBytes := hr _ (by
      rw [hd]
      simp only [DataW.weights, ht, hby, List.length_map, List.length_range]
      exact List.mem_cons_self)
    have hone : ∀ k, k < len → ∃ o : α, (∃ b off, some a = some (⟨b, off, none⟩ : Addr) ∧ b < w.heap.size ∧ at_ w w.heap.size b (off + k * size) o) ∧ Q o ∧ f o ≤ Rows.uptoBulk (D k) := by
      intro k hk
      obtain ⟨cs', hc, ht'⟩ := hcell k (by omega)
      obtain ⟨_, hcl, hat⟩ := World.cells?_some hc
      have hspot : a.spot = none := by
        obtain ⟨ds', hc', _⟩ := hcell 0 (by omega)
        obtain ⟨_, hcl', hat'⟩ := World.cells?_some hc'
        have h0 := hat' 0 (by omega)
        have hv0 : ds'[0]? = some (ds'[0]'(by omega)) := List.getElem?_eq_getElem (by omega)
        rw [hv0] at h0
        simpa [Addr.add] using World.cell?_spot h0
      obtain ⟨b, off, spot⟩ := a
      simp only at hspot
      subst hspot
      have h0 := hat 0 (by omega)
      have hv0 : cs'[0]? = some (cs'[0]'(by omega)) := List.getElem?_eq_getElem (by omega)
      rw [hv0] at h0
      have hlt0 := World.block_lt_of_cell? w _ h0
      rw [add_none, add_none] at hlt0
      obtain ⟨o, ho, hq, hfo⟩ := elem _ b (off + k * size) cs' (D k) (Pl k) (fun x hx => hr x (by
        rw [hd]
        simp only [DataW.weights, ht, List.mem_cons, List.mem_append]
        refine .inr (.inl (weights_of (d := D k) ?_ x hx))
        exact List.mem_map.2 ⟨k, List.mem_range.2 hk, rfl⟩)) ht' hcl (fun j u hu => by
          have hj : j < size := by have := (List.getElem?_eq_some_iff.1 hu).1; omega
          have := hat j hj
          rw [add_none, add_none] at this
          exact this.trans hu)
      exact ⟨o, ⟨b, off, rfl, hlt0, ho⟩, hq, hfo⟩
    obtain ⟨L, hL, hP⟩ := listP_of len hone
    refine ⟨some a, cap, L, by rw [hL], fun k o ho => (hP k o ho).1, ?_, fun x hx => ?_, ?_⟩
    · simp only [reachBytes] at hlen
      rw [hL]
      exact Nat.le_trans (Nat.mul_le_mul_right _ (by omega)) hlen
    · obtain ⟨k, hk⟩ := List.mem_iff_getElem?.1 hx
      exact (hP k x hk).2.1
    · have hb := sum_bulk (D := D) (f := f) (L := L) fun k x hx => (hP k x hx).2.2
      rw [hL] at hb
      rw [hd, ← bulk_slice]
      omega

set_option maxRecDepth 100000 in
theorem prop_ofU {w : World} (n b off : Nat) (cs : List Value) (d : DataW H) (p : List MemPlace) (hr : ∀ m ∈ d.weights Tryz.prog 45, m ≤ reachBytes)
    (h : DataW.trod enc Tryz.prog w 0 (fun _ => true) true n 45 cs = some (d, p)) (hl : cs.length = 6) (hc : ∀ j u, cs[j]? = some u → w.cell? ⟨b, off + j, none⟩ = some u) :
    ∃ o : Pv, PropAt w w.heap.size b off o ∧ True ∧ 1 ≤ Rows.uptoBulk d := by
  obtain ⟨o, h1, h2⟩ := prop_of n b off cs d p hr h hl hc
  exact ⟨o, h1, h2, bulk_one d⟩

set_option maxRecDepth 100000 in
theorem node_ofU {w : World} (n b off : Nat) (cs : List Value) (d : DataW H) (p : List MemPlace) (hr : ∀ m ∈ d.weights Tryz.prog 40, m ≤ reachBytes)
    (h : DataW.trod enc Tryz.prog w 0 (fun _ => true) true n 40 cs = some (d, p)) (hl : cs.length = 3) (hc : ∀ j u, cs[j]? = some u → w.cell? ⟨b, off + j, none⟩ = some u) :
    ∃ o : Nv, NodeAt w w.heap.size b off o ∧ NodeBig o ∧ o.labels.length + o.props.length ≤ Rows.uptoBulk d := by
  obtain ⟨xs, m, _, hx, _, hlen, hf⟩ := DataW.trod_struct Tryz.underlying40 h
  match cs, hl, xs, hlen with
  | [k0, k1, k2], _, [y0, y1, y2], _ =>
    simp only [Prod.mk.injEq] at hx
    obtain ⟨hd, hp⟩ := hx
    have g0 : DataW.trod enc Tryz.prog w 0 (fun _ => true) true m 3 [k0] = some y0 := by simpa [one_i] using hf 0 _ rfl
    have g1 : DataW.trod enc Tryz.prog w 0 (fun _ => true) true m 37 [k1] = some y1 := by simpa [one_ts] using hf 1 _ rfl
    have g2 : DataW.trod enc Tryz.prog w 0 (fun _ => true) true m 38 [k2] = some y2 := by simpa [one_ps] using hf 2 _ rfl
    have hwt : ∀ m, m ∈ y1.1.weights Tryz.prog 37 ∨ m ∈ y2.1.weights Tryz.prog 38 → m ≤ reachBytes := fun m hm => hr m (by
      rw [hd]
      simp only [DataW.weights, Tryz.underlying40, List.map_cons, List.map_nil]
      simp only [DataW.weightsEach, List.mem_append]
      rcases hm with hm | hm
      · exact .inr (.inl hm)
      · exact .inr (.inr (.inl hm)))
    obtain ⟨a, e0, _, wa⟩ := DataW.trod_int Tryz.underlying3 g0
    simp only [List.cons.injEq, and_true] at e0
    subst e0
    obtain ⟨A, ts, c, rfl, r4, n4, b4⟩ := open_strs1 Tryz.underlying37 Tryz.underlying9 one_s (by kernel_rfl) (fun m hm => hwt m (.inl hm)) g1
    have u1 := strs_bulk Tryz.underlying37 Tryz.underlying9 one_s g1
    obtain ⟨A', c', L, rfl, r5, b5, -, u2⟩ := open_rowsU (d := y2.1) (p := y2.2) PropAt (fun _ => True) (fun _ => 1) Tryz.underlying38 cells_prop (by omega) (show Tryz.prog.bytesOf 45 = 96 by kernel_rfl) prop_ofU (fun m hm => hwt m (.inr hm)) g2
    exact ⟨⟨a, ts, L⟩, ⟨A, c, A', c', fun i u hu => hc i u (by simpa [ncells] using hu), r4, r5, bounds_i64 wa, by simp only; omega, by simp only; omega, n4⟩, ⟨by simp only; omega, b5⟩, by rw [sum_ones] at u2; rw [hd]; simp only [Rows.uptoBulk, Rows.uptoBulkAll, List.map_cons, List.map_nil]; omega⟩
set_option maxRecDepth 100000 in
theorem rel_ofU {w : World} (n b off : Nat) (cs : List Value) (d : DataW H) (p : List MemPlace) (hr : ∀ m ∈ d.weights Tryz.prog 47, m ≤ reachBytes)
    (h : DataW.trod enc Tryz.prog w 0 (fun _ => true) true n 47 cs = some (d, p)) (hl : cs.length = 5) (hc : ∀ j u, cs[j]? = some u → w.cell? ⟨b, off + j, none⟩ = some u) :
    ∃ o : Rv, RelAt w w.heap.size b off o ∧ RelBig o ∧ 1 + o.props.length ≤ Rows.uptoBulk d := by
  obtain ⟨xs, m, _, hx, _, hlen, hf⟩ := DataW.trod_struct Tryz.underlying47 h
  match cs, hl, xs, hlen with
  | [k0, k1, k2, k3, k4], _, [y0, y1, y2, y3, y4], _ =>
    simp only [Prod.mk.injEq] at hx
    obtain ⟨hd, hp⟩ := hx
    have g0 : DataW.trod enc Tryz.prog w 0 (fun _ => true) true m 3 [k0] = some y0 := by simpa [one_i] using hf 0 _ rfl
    have g1 : DataW.trod enc Tryz.prog w 0 (fun _ => true) true m 9 [k1] = some y1 := by simpa [one_s] using hf 1 _ rfl
    have g2 : DataW.trod enc Tryz.prog w 0 (fun _ => true) true m 3 [k2] = some y2 := by simpa [one_i] using hf 2 _ rfl
    have g3 : DataW.trod enc Tryz.prog w 0 (fun _ => true) true m 3 [k3] = some y3 := by simpa [one_i] using hf 3 _ rfl
    have g4 : DataW.trod enc Tryz.prog w 0 (fun _ => true) true m 38 [k4] = some y4 := by simpa [one_ps] using hf 4 _ rfl
    have hwt : ∀ m, m ∈ y1.1.weights Tryz.prog 9 ∨ m ∈ y4.1.weights Tryz.prog 38 → m ≤ reachBytes := fun m hm => hr m (by
      rw [hd]
      simp only [DataW.weights, Tryz.underlying47, List.map_cons, List.map_nil]
      simp only [DataW.weightsEach, List.mem_append]
      rcases hm with hm | hm
      · exact .inr (.inl hm)
      · exact .inr (.inr (.inr (.inr (.inl hm)))))
    obtain ⟨a, e0, _, wa⟩ := DataW.trod_int Tryz.underlying3 g0
    obtain ⟨s, e1, e1', _⟩ := DataW.trod_string Tryz.underlying9 g1
    obtain ⟨a2, e2, _, wa2⟩ := DataW.trod_int Tryz.underlying3 g2
    obtain ⟨a3, e3, _, wa3⟩ := DataW.trod_int Tryz.underlying3 g3
    simp only [List.cons.injEq, and_true] at e0 e1 e2 e3
    subst e0 e1 e2 e3
    have hss := str_reach (d := y1.1) (s := s) (by rw [e1']) (fun m hm => hwt m (.inl hm))
    obtain ⟨A', c', L, rfl, r5, b5, -, u2⟩ := open_rowsU (d := y4.1) (p := y4.2) PropAt (fun _ => True) (fun _ => 1) Tryz.underlying38 cells_prop (by omega) (show Tryz.prog.bytesOf 45 = 96 by kernel_rfl) prop_ofU (fun m hm => hwt m (.inr hm)) g4
    exact ⟨⟨a, s, a2, a3, L⟩, ⟨A', c', fun i u hu => hc i u (by simpa [rcells] using hu), r5, bounds_i64 wa, bounds_i64 wa2, bounds_i64 wa3, hss, by simp only; omega⟩, b5, by rw [sum_ones] at u2; rw [hd]; simp only [Rows.uptoBulk, Rows.uptoBulkAll, List.map_cons, List.map_nil]; have := bulk_one y0.1; omega⟩

set_option maxRecDepth 100000 in
/-- a graph that came in -/
theorem open_graphU {w : World} {d : DataW H} {v : Value} {p : List MemPlace} {b0 : Nat} {r : Reach} (hv : Value.okWide Tryz.prog w r b0 27 v)
    (hr : ∀ m ∈ d.weights Tryz.prog 27, m ≤ reachBytes) (h : DataW.Trod enc Tryz.prog w 0 (fun _ => true) true 27 v d p) (hlt : ∀ x ∈ p, x.block < w.heap.size) (hu : Rows.uptoBulk d ≤ 1048576) :
    ∃ (g : Gv) (A : Option Addr) (c : Nat) (A' : Option Addr) (c' : Nat), v = gagg g A c A' c' ∧ GR w w.heap.size g A A' ∧ GBig g ∧ GFew g := by
  obtain ⟨cs, rfl, hsz⟩ := okWide_struct Tryz.underlying27 hv
  obtain ⟨l⟩ := cs
  have hl2 : l.length = 2 := by have := hsz.trans cells_graph; simpa using this
  obtain ⟨fuel, hf0⟩ := h
  obtain ⟨xs, m, _, hx, _, hlen, hf⟩ := DataW.trod_struct Tryz.underlying27 hf0
  match l, hl2, xs, hlen with
  | [k0, k1], _, [y0, y1], _ =>
    simp only [Prod.mk.injEq] at hx
    obtain ⟨hd, hp⟩ := hx
    have g0 := hf 0 _ rfl
    have g1 := hf 1 _ rfl
    have g0 : DataW.trod enc Tryz.prog w 0 (fun _ => true) true m 24 [k0] = some y0 := by simpa [Value.cells, one_nd] using g0
    have g1 : DataW.trod enc Tryz.prog w 0 (fun _ => true) true m 25 [k1] = some y1 := by simpa [Value.cells, one_rl] using g1
    have hwt : ∀ m, m ∈ y0.1.weights Tryz.prog 24 ∨ m ∈ y1.1.weights Tryz.prog 25 → m ≤ reachBytes := fun m hm => hr m (by
      rw [hd]
      simp only [DataW.weights, Tryz.underlying27, List.map_cons, List.map_nil]
      simp only [DataW.weightsEach, List.mem_append]
      rcases hm with hm | hm
      · exact .inl hm
      · exact .inr (.inl hm))
    obtain ⟨A, c, L, rfl, r1, b1, q1, u1⟩ := open_rowsU (d := y0.1) (p := y0.2) NodeAt NodeBig (fun n => n.labels.length + n.props.length) Tryz.underlying24 cells_node (by omega) (show Tryz.prog.bytesOf 40 = 56 by kernel_rfl) node_ofU (fun m hm => hwt m (.inl hm)) g0
    obtain ⟨A', c', M, rfl, r2, b2, q2, u2⟩ := open_rowsU (d := y1.1) (p := y1.2) RelAt RelBig (fun r => 1 + r.props.length) Tryz.underlying25 cells_rel (by omega) (show Tryz.prog.bytesOf 47 = 64 by kernel_rfl) rel_ofU (fun m hm => hwt m (.inr hm)) g1
    exact ⟨⟨L, M⟩, A, c, A', c', rfl, ⟨r1, r2, by simp only; omega, by simp only; omega⟩, ⟨b1, b2, q1, q2⟩, by
      rw [hd] at hu
      simp only [Rows.uptoBulk, Rows.uptoBulkAll, List.map_cons, List.map_nil] at hu
      exact GFew.of (by simp only; omega) (by simp only; omega)⟩
end
end Go.Proofs.YthnaipgdjbaebaaGreat
