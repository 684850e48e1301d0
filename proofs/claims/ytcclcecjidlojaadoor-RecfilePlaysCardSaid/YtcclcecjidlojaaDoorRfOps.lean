/- recfile: how the law's head and its script of calls are opened. -/
import Derived.Test.YtcclcecjidlojaaDoorRfClone
import Derived.SliceStrings
import Derived.Deep.Slices
import Derived.Lib.SmallJoins
namespace Go.Proofs.YtcclcecjidlojaaDoor
open Go.ChangeShapes Go.WideShapes Go.ChangeAt Go.RowKit Go.Deep
set_option linter.unusedVariables false

/-- one call -/
structure Opv where
  kind : Int
  id : Int

/-- A call stands at offset off of block b. -/
def OpAt (w : World) (B b off : Nat) (o : Opv) : Prop :=
  ∃ A l c, w.cell? ⟨b, off, none⟩ = some (.int .i64 o.kind) ∧ w.cell? ⟨b, off + 1, none⟩ = some (.int .i64 o.id) ∧ w.cell? ⟨b, off + 2, none⟩ = some (.slice A l c) ∧
    (-9223372036854775808 ≤ o.kind ∧ o.kind ≤ 9223372036854775807) ∧ (-9223372036854775808 ≤ o.id ∧ o.id ≤ 9223372036854775807)
theorem OpAt.below {w w' : World} {B b off : Nat} {o : Opv} (h : OpAt w B b off o) (hb : Below B w w') (hB : b < B) : OpAt w' B b off o := by
  obtain ⟨A, l, c, h0, h1, h2, h3⟩ := h
  exact ⟨A, l, c, (hb.cell (p := ⟨b, off, none⟩) hB).trans h0, (hb.cell (p := ⟨b, off + 1, none⟩) hB).trans h1, (hb.cell (p := ⟨b, off + 2, none⟩) hB).trans h2, h3⟩

/-- A slice of calls at A. -/
def Ops (w : World) (B : Nat) (A : Option Addr) (L : List Opv) : Prop :=
  ∀ k o, L[k]? = some o → ∃ b off, A = some ⟨b, off, none⟩ ∧ b < B ∧ OpAt w B b (off + k * 3) o
theorem Ops.below {w w' : World} {B : Nat} {A : Option Addr} {L : List Opv} (h : Ops w B A L) (hb : Below B w w') : Ops w' B A L := by
  intro k o ho
  obtain ⟨b, off, h1, h2, h3⟩ := h k o ho
  exact ⟨b, off, h1, h2, h3.below hb h2⟩

theorem list_of {α : Type} {P : Nat → α → Prop} (n : Nat) (h : ∀ i, i < n → ∃ x, P i x) : ∃ L : List α, L.length = n ∧ ∀ i x, L[i]? = some x → P i x := by
  induction n with
  | zero => exact ⟨[], rfl, fun i x hx => by simp at hx⟩
  | succ n ih =>
    obtain ⟨L, hl, hL⟩ := ih fun i hi => h i (by omega)
    obtain ⟨x, hx⟩ := h n (by omega)
    refine ⟨L ++ [x], by simp [hl], fun i y hy => ?_⟩
    rcases Nat.lt_or_ge i n with hi | hi
    · rw [List.getElem?_append_left (by omega)] at hy; exact hL i y hy
    · rw [List.getElem?_append_right (by omega)] at hy
      have : i - L.length = 0 := by
        have := (List.getElem?_eq_some_iff.1 hy).1
        simpa using this
      rw [this] at hy
      simp at hy
      subst hy
      obtain rfl : i = n := by omega
      exact hx

section
variable {H : Type} {enc : TypeId × Value → H}
theorem cells_op : Tryd.prog.cellsOf 44 = 3 := by kernel_rfl
theorem cells_head : Tryd.prog.cellsOf 24 = 3 := by kernel_rfl
theorem cells_int : Tryd.prog.cellsOf 3 = 1 := by kernel_rfl
theorem cells_sl : Tryd.prog.cellsOf 34 = 1 := by kernel_rfl
set_option maxRecDepth 100000 in
theorem open_head {w : World} {d : DataW H} {v : Value} {p : List MemPlace} {b0 : Nat} {r : Reach} (hv : Value.okWide Tryd.prog w r b0 24 v)
    (hr : ∀ m ∈ d.weights Tryd.prog 24, m ≤ reachBytes) (h : DataW.Trod enc Tryd.prog w 0 (fun _ => true) true 24 v d p) (hlt : ∀ x ∈ p, x.block < w.heap.size) :
    ∃ K V S : Int, v = .agg #[.int .i64 K, .int .i64 V, .int .i64 S] ∧ ((-9223372036854775808 ≤ K ∧ K ≤ 9223372036854775807) ∧ (-9223372036854775808 ≤ V ∧ V ≤ 9223372036854775807) ∧ (-9223372036854775808 ≤ S ∧ S ≤ 9223372036854775807)) := by
  have hs := Tryd.underlying24
  obtain ⟨cs, rfl, hsz⟩ := okWide_struct hs hv
  obtain ⟨l⟩ := cs
  have hl : l.length = 3 := by have := hsz.trans cells_head; simpa using this
  obtain ⟨fuel, hf⟩ := h
  obtain ⟨ys, n, _, hx, _, hlen, hg⟩ := DataW.trod_struct hs hf
  obtain ⟨k0, k1, k2, rfl⟩ : ∃ k0 k1 k2, l = [k0, k1, k2] := by
    rcases l with _ | ⟨c0, _ | ⟨c1, _ | ⟨c2, _ | ⟨c3, r⟩⟩⟩⟩ <;> simp at hl
    exact ⟨c0, c1, c2, rfl⟩
  have hl3 : ys.length = 3 := hlen
  obtain ⟨y0, y1, y2, rfl⟩ : ∃ y0 y1 y2, ys = [y0, y1, y2] := by
    rcases ys with _ | ⟨c0, _ | ⟨c1, _ | ⟨c2, _ | ⟨c3, r⟩⟩⟩⟩ <;> simp at hl3
    exact ⟨c0, c1, c2, rfl⟩
  have g0 := hg 0 _ rfl
  have g1 := hg 1 _ rfl
  have g2 := hg 2 _ rfl
  have g0 : DataW.trod enc Tryd.prog w 0 (fun _ => true) true n 3 [k0] = some y0 := by simpa [Value.cells, cells_int] using g0
  have g1 : DataW.trod enc Tryd.prog w 0 (fun _ => true) true n 3 [k1] = some y1 := by simpa [Value.cells, cells_int] using g1
  have g2 : DataW.trod enc Tryd.prog w 0 (fun _ => true) true n 3 [k2] = some y2 := by simpa [Value.cells, cells_int] using g2
  obtain ⟨a0, e0, _, w0⟩ := DataW.trod_int Tryd.underlying3 g0
  obtain ⟨a1, e1, _, w1⟩ := DataW.trod_int Tryd.underlying3 g1
  obtain ⟨a2, e2, _, w2⟩ := DataW.trod_int Tryd.underlying3 g2
  simp only [List.cons.injEq, and_true] at e0 e1 e2
  subst e0 e1 e2
  exact ⟨a0, a1, a2, rfl, bounds_i64 w0, bounds_i64 w1, bounds_i64 w2⟩
set_option maxRecDepth 100000 in
theorem op_of {w : World} {n b off : Nat} {cs : List Value} {d : DataW H} {p : List MemPlace}
    (h : DataW.trod enc Tryd.prog w 0 (fun _ => true) true n 44 cs = some (d, p)) (hc : ∀ j u, cs[j]? = some u → w.cell? ⟨b, off + j, none⟩ = some u) :
    ∃ o : Opv, OpAt w w.heap.size b off o := by
  obtain ⟨xs, m, _, hx, hl, hlen, hf⟩ := DataW.trod_struct Tryd.underlying44 h
  rw [cells_op] at hl
  match cs, hl, xs, hlen with
  | [c0, c1, c2], _, [y0, y1, y2], _ =>
    have h0 : DataW.trod enc Tryd.prog w 0 (fun _ => true) true m 3 [c0] = some y0 := by
      have := hf 0 _ rfl
      simpa [cells_int] using this
    have h1 : DataW.trod enc Tryd.prog w 0 (fun _ => true) true m 3 [c1] = some y1 := by
      have := hf 1 _ rfl
      simpa [cells_int] using this
    have h3 : DataW.trod enc Tryd.prog w 0 (fun _ => true) true m 34 [c2] = some y2 := by
      have := hf 2 _ rfl
      simpa [cells_sl] using this
    obtain ⟨a, e0, _, wa⟩ := DataW.trod_int Tryd.underlying3 h0
    obtain ⟨b1, e1, _, wb⟩ := DataW.trod_int Tryd.underlying3 h1
    obtain ⟨A, l, c, hs⟩ := Joins.slice_form Tryd.underlying34 h3
    simp only [List.cons.injEq, and_true] at e0 e1 hs
    subst e0 e1 hs
    exact ⟨⟨a, b1⟩, A, l, c, hc 0 _ rfl, hc 1 _ rfl, hc 2 _ rfl, bounds_i64 wa, bounds_i64 wb⟩

set_option maxRecDepth 100000 in
theorem open_script {w : World} {d : DataW H} {v : Value} {p : List MemPlace} {b0 : Nat} {r : Reach} (hv : Value.okWide Tryd.prog w r b0 42 v)
    (hr : ∀ m ∈ d.weights Tryd.prog 42, m ≤ reachBytes) (h : DataW.Trod enc Tryd.prog w 0 (fun _ => true) true 42 v d p) (hlt : ∀ x ∈ p, x.block < w.heap.size) :
    ∃ (A : Option Addr) (L : List Opv) (c : Nat), v = .slice A L.length c ∧ Ops w w.heap.size A L ∧ L.length * 40 ≤ 140737488351232 := by
  obtain ⟨A, n, c, rfl⟩ := okWide_slice Tryd.underlying42 hv
  obtain ⟨fuel, hf⟩ := h
  rcases open_slice Tryd.underlying42 hf with ⟨hcs, _⟩ | ⟨a, len, cap, m, n', D, Pl, hcs, _, hl, hm, hmm, hx, hcell⟩
  · simp [Value.cells] at hcs
    obtain ⟨rfl, rfl, rfl⟩ := hcs
    exact ⟨none, [], 0, rfl, fun k o ho => by simp at ho, by simp⟩
  · simp [Value.cells] at hcs
    obtain ⟨rfl, rfl, rfl⟩ := hcs
    simp only [if_true] at hmm
    simp only [Prod.mk.injEq] at hx
    obtain ⟨hd, hp⟩ := hx
    rw [cells_op] at hcell
    have hby : Tryd.prog.bytesOf 44 = 40 := by kernel_rfl
    have hlen : (n + (m - n)) * 40 ≤ reachBytes := hr _ (by
      rw [hd]
      simp only [DataW.weights, Tryd.underlying42, hby, List.length_map, List.length_range]
      exact List.mem_cons_self)
    have hone : ∀ k, k < n → ∃ o : Opv, (∃ b off, some a = some (⟨b, off, none⟩ : Addr) ∧ b < w.heap.size ∧ OpAt w w.heap.size b (off + k * 3) o) := by
      intro k hk
      obtain ⟨cs', hc, ht'⟩ := hcell k (by omega)
      obtain ⟨_, hcl, hat⟩ := World.cells?_some hc
      have hspot : a.spot = none := by
        obtain ⟨ds', hc', _⟩ := hcell 0 (by omega)
        obtain ⟨_, hcl', hat'⟩ := World.cells?_some hc'
        have h0 := hat' 0 (by omega)
        have hv0 : ds'[0]? = some (ds'[0]'(by omega)) := List.getElem?_eq_getElem (by omega)
        rw [hv0] at h0
        simpa [Addr.add] using World.cell?_spot h0
      obtain ⟨b, off, spot⟩ := a
      simp only at hspot
      subst hspot
      have h0 := hat 0 (by omega)
      have hv0 : cs'[0]? = some (cs'[0]'(by omega)) := List.getElem?_eq_getElem (by omega)
      rw [hv0] at h0
      have hlt0 := World.block_lt_of_cell? w _ h0
      rw [add_none, add_none] at hlt0
      obtain ⟨o, ho⟩ := op_of (b := b) (off := off + k * 3) (d := D k) (p := Pl k) ht' (fun j u hu => by
          have hj : j < 3 := by have := (List.getElem?_eq_some_iff.1 hu).1; omega
          have := hat j hj
          rw [add_none, add_none] at this
          exact this.trans hu)
      exact ⟨o, ⟨b, off, rfl, hlt0, ho⟩⟩
    obtain ⟨L, hL, hP⟩ := list_of n hone
    exact ⟨some a, L, c, by rw [hL], fun k o ho => hP k o ho, by simp only [reachBytes] at hlen; omega⟩
end

/-- element k of a list of calls -/
def opAt (L : List Opv) (k : Nat) : Opv := L.getD k ⟨0, 0⟩
theorem opAt_get {L : List Opv} {k : Nat} (h : k < L.length) : L[k]? = some (opAt L k) := by
  unfold opAt; rw [List.getD_eq_getElem?_getD, List.getElem?_eq_getElem h]; rfl

end Go.Proofs.YtcclcecjidlojaaDoor
