/- slots: the world as it is laid, and how a list of keys with values is opened (SlLaidZ and SlOpen in one text). -/
import Derived.Test.YtgpahglmhnnobaaGreatDoorCards
import Derived.Test.YtgpahglmhnnobaaGreatDoorTie
import Derived.Test.YtgpahglmhnnobaaGreatDoorRows
import Derived.Test.YtgpahglmhnnobaaGreatDoorOpen
import Derived.Deep.DeepHandedRow
import Derived.Deep.DeepLaidRun
import Derived.Lib.LaidTab
import Derived.Shelf.Vars
import Derived.Test.YtgpahglmhnnobaaGreatDoorSlCopy
import Derived.SliceStrings
import Derived.Deep.Slices
namespace Go.Proofs.YtgpahglmhnnobaaGreatDoor
open Go.ChangeShapes Go.WideShapes Go.ChangeAt Go.RowKit
set_option linter.unusedVariables false

/-- the cells of a table that is laid -/
def rowCells : DataW Unit → Array Value
  | .agg l => (l.map fun d => match d with
    | .lit (.int k n) => [Value.int k n]
    | .agg m => m.map fun d => match d with
      | .lit (.int k n) => Value.int k n
      | _ => Value.int .u8 0
    | _ => []).flatten.toArray
  | _ => #[]
def setRow (h : Array Obj) (g : Nat) (cs : Array Value) : Array Obj := h.modify g fun | .cells _ t frozen => .cells cs t frozen | o => o
/-- a world for the witness: the settled one, the tables holding what their initialisers lay -/
noncomputable def heap0 (os : Os) : Array Obj := (World.holding Tryz.prog os ⟨#[], #[], []⟩).heap
noncomputable def heap1 (os : Os) : Array Obj := setRow (heap0 os) 1 (rowCells Rows.laid_unicode_utf8_acceptRanges)
noncomputable def heap2 (os : Os) : Array Obj := setRow (heap1 os) 0 (rowCells Rows.laid_unicode_utf8_first)
noncomputable def laidWorld (os : Os) : World := { World.holding Tryz.prog os ⟨#[], #[], []⟩ with heap := heap2 os }
set_option maxRecDepth 100000 in
theorem laid_met0 (os : Os) : laidMet Tryz.prog Rows.slotsPacksRow.laid ((laidWorld os).forCall (fun _ _ => 0) ⟨#[], #[], []⟩).memory :=
  laidMet_of_run3 8 (by kernel_rfl) (by kernel_rfl) (by kernel_rfl)
end Go.Proofs.YtgpahglmhnnobaaGreatDoor

namespace Go.Proofs.YtgpahglmhnnobaaGreatDoor
open Go.ChangeShapes Go.WideShapes Go.ChangeAt Go.RowKit Go.Deep
set_option linter.unusedVariables false

section
variable {H : Type} {enc : TypeId × Value → H} {P : Program}
theorem spot_none {w : World} {x : Addr} {v : Value} (h : w.cell? x = some v) : x.spot = none := World.cell?_spot h

theorem open_i64s {w : World} {t e : TypeId} {fuel : Nat} {v : Value} {y : DataW H × List MemPlace} (ht : P.underlying t = some (.slice e)) (he : P.underlying e = some (.int .i64)) (hc : P.cellsOf e = 1) (hby : P.bytesOf e = 8)
    (hr : ∀ m ∈ y.1.weights P t, m ≤ reachBytes) (h : DataW.trod enc P w 0 (fun _ => true) true fuel t [v] = some y) :
    ∃ (A : Option Addr) (ns : List Int) (c : Nat), v = .slice A ns.length c ∧ RL ivl w w.heap.size A ns ∧ (∀ x ∈ ns, -9223372036854775808 ≤ x ∧ x ≤ 9223372036854775807) ∧ ns.length * 8 ≤ 140737488351232 := by
  rcases open_ints ht he hc h with ⟨hcs, _⟩ | ⟨x, l, c, zs, hcs, _, hl, hm, hz, hx, hcell, hwz⟩
  · simp only [List.cons.injEq, and_true] at hcs
    subst hcs
    exact ⟨none, [], 0, rfl, RL.empty _ _ _ _, (fun x hx => by cases hx), by simp⟩
  · simp only [List.cons.injEq, and_true] at hcs
    subst hcs
    simp only [if_true] at hz
    have hcap : c * 8 ≤ 140737488351232 := by
      have := hr (((lits (H := H) .i64 (zs.take l)).length + (lits (H := H) .i64 (zs.drop l)).length) * 8) (by rw [hx]; simp [DataW.weights, ht, hby])
      rw [lits_length, lits_length] at this
      simp only [List.length_take, List.length_drop, reachBytes] at this
      omega
    have hn : (zs.take l).length = l := by rw [List.length_take]; omega
    refine ⟨some x, zs.take l, c, by rw [hn], ⟨⟨by simp, fun h0 => ?_⟩, fun z _ => ivl_ok z⟩, fun z hz' => bounds_i64 (hwz z (List.mem_of_mem_take hz')), by rw [hn]; omega⟩
    rw [hn] at h0
    refine ⟨x, rfl, ?_, fun j u hj => ?_⟩
    · have := cell_lt (hcell 0 (by omega))
      rwa [block_of_add] at this
    · have hjn : j < l := by
        have := (List.getElem?_eq_some_iff.1 hj).1
        rw [List.length_map, hn] at this; exact this
      rw [hcell j (by omega)]
      have hj' : j < zs.length := by omega
      simp only [List.getElem?_map, List.getElem?_take_of_lt hjn, List.getElem?_eq_getElem hj', Option.map_some, Option.some.injEq] at hj
      rw [← hj]
      simp [List.getD_eq_getElem?_getD, List.getElem?_eq_getElem hj']

theorem weights_of {e : TypeId} {l : List (DataW H)} {d : DataW H} (h : d ∈ l) : ∀ n ∈ d.weights P e, n ∈ DataW.weightsAll P e l := by
  induction l with
  | nil => cases h
  | cons x r ih =>
    intro n hn
    simp only [DataW.weightsAll, List.mem_append]
    rcases List.mem_cons.1 h with rfl | h
    · exact .inl hn
    · exact .inr (ih h n hn)

theorem open_strs1 {w : World} {t e : TypeId} {fuel : Nat} {v : Value} {y : DataW H × List MemPlace} (ht : P.underlying t = some (.slice e)) (he : P.underlying e = some .string) (hc : P.cellsOf e = 1) (hby : P.bytesOf e = 16)
    (hr : ∀ m ∈ y.1.weights P t, m ≤ reachBytes) (h : DataW.trod enc P w 0 (fun _ => true) true fuel t [v] = some y) :
    ∃ (A : Option Addr) (ts : List ByteArray) (c : Nat), v = .slice A ts.length c ∧ RL svl w w.heap.size A ts ∧ (∀ x ∈ ts, x.size ≤ 140737488351232) ∧ ts.length * 16 ≤ 140737488351232 := by
  rcases open_strings ht he hc h with ⟨hcs, _⟩ | ⟨x, l, c, zs, hcs, _, hl, hm, hz, hx, hcell, hwz⟩
  · simp only [List.cons.injEq, and_true] at hcs
    subst hcs
    exact ⟨none, [], 0, rfl, RL.empty _ _ _ _, (fun x hx => by cases hx), by simp⟩
  · simp only [List.cons.injEq, and_true] at hcs
    subst hcs
    simp only [if_true] at hz
    have hcap : c * 16 ≤ 140737488351232 := by
      have := hr (((strs (H := H) (zs.take l)).length + (strs (H := H) (zs.drop l)).length) * 16) (by rw [hx]; simp [DataW.weights, ht, hby])
      simp only [strs, List.length_map, List.length_take, List.length_drop, reachBytes] at this
      omega
    have hn : (zs.take l).length = l := by rw [List.length_take]; omega
    refine ⟨some x, zs.take l, c, by rw [hn], ⟨⟨by simp, fun h0 => ?_⟩, fun z _ => svl_ok z⟩, fun z hz' => ?_, by rw [hn]; omega⟩
    · rw [hn] at h0
      refine ⟨x, rfl, ?_, fun j u hj => ?_⟩
      · have := cell_lt (hcell 0 (by omega))
        rwa [block_of_add] at this
      · have hjn : j < l := by
          have := (List.getElem?_eq_some_iff.1 hj).1
          rw [List.length_map, hn] at this; exact this
        rw [hcell j (by omega)]
        have hj' : j < zs.length := by omega
        simp only [List.getElem?_map, List.getElem?_take_of_lt hjn, List.getElem?_eq_getElem hj', Option.map_some, Option.some.injEq] at hj
        rw [← hj]
        simp [List.getD_eq_getElem?_getD, List.getElem?_eq_getElem hj']
    · have := hr z.data.toList.length (by
        rw [hx]
        simp only [DataW.weights, ht, List.mem_cons, List.mem_append]
        refine .inr (.inl (weights_of (d := .lit (.string z.data.toList)) ?_ _ (by simp [DataW.weights])))
        exact List.mem_map.2 ⟨z, hz', rfl⟩)
      simp only [reachBytes] at this
      have h2 : z.data.toList.length = z.size := by rw [Array.length_toList]; rfl
      omega
end


theorem listP_of {α : Type} {P : Nat → α → Prop} (n : Nat) (h : ∀ i, i < n → ∃ x, P i x) : ∃ L : List α, L.length = n ∧ ∀ i x, L[i]? = some x → P i x := by
  induction n with
  | zero => exact ⟨[], rfl, fun i x hx => by simp at hx⟩
  | succ n ih =>
    obtain ⟨L, hl, hL⟩ := ih fun i hi => h i (by omega)
    obtain ⟨x, hx⟩ := h n (by omega)
    refine ⟨L ++ [x], by simp [hl], fun i y hy => ?_⟩
    rcases Nat.lt_or_ge i n with hi | hi
    · rw [List.getElem?_append_left (by omega)] at hy; exact hL i y hy
    · rw [List.getElem?_append_right (by omega)] at hy
      have : i - L.length = 0 := by
        have := (List.getElem?_eq_some_iff.1 hy).1
        simpa using this
      rw [this] at hy
      simp at hy
      subst hy
      obtain rfl : i = n := by omega
      exact hx

section
variable {H : Type} {enc : TypeId × Value → H}
/-- a list of structs that came in -/
theorem open_rows {α : Type} {P : Program} {w : World} {t e : TypeId} {fuel size bytes : Nat} {v : Value} {d : DataW H} {p : List MemPlace} (at_ : World → Nat → Nat → Nat → α → Prop) (Q : α → Prop) (ht : P.underlying t = some (.slice e)) (hsz : P.cellsOf e = size) (hs0 : 0 < size) (hby : P.bytesOf e = bytes)
    (elem : ∀ (n b off : Nat) (cs : List Value) (d : DataW H) (p : List MemPlace), (∀ m ∈ d.weights P e, m ≤ reachBytes) → DataW.trod enc P w 0 (fun _ => true) true n e cs = some (d, p) → cs.length = size → (∀ j u, cs[j]? = some u → w.cell? ⟨b, off + j, none⟩ = some u) → ∃ o : α, at_ w w.heap.size b off o ∧ Q o)
    (hr : ∀ m ∈ d.weights P t, m ≤ reachBytes) (h : DataW.trod enc P w 0 (fun _ => true) true fuel t [v] = some (d, p)) :
    ∃ (A : Option Addr) (c : Nat) (L : List α), v = .slice A L.length c ∧ Rows size at_ w w.heap.size A L ∧ L.length * bytes ≤ 140737488351232 ∧ ∀ x ∈ L, Q x := by
  rcases open_slice ht h with ⟨hcs, _⟩ | ⟨a, len, cap, m, n', D, Pl, hcs, _, hl, hm, hmm, hx, hcell⟩
  · simp only [List.cons.injEq, and_true] at hcs
    subst hcs
    exact ⟨none, 0, [], rfl, Rows.nil _ _ _ _ _, by simp, fun x hx => by cases hx⟩
  · simp only [List.cons.injEq, and_true] at hcs
    subst hcs
    simp only [if_true] at hmm
    simp only [Prod.mk.injEq] at hx
    obtain ⟨hd, hp⟩ := hx
    rw [hsz] at hcell
    have hlen : (len + (m - len)) * bytes ≤ reachBytes := hr _ (by
      rw [hd]
      simp only [DataW.weights, ht, hby, List.length_map, List.length_range]
      exact List.mem_cons_self)
    have hone : ∀ k, k < len → ∃ o : α, (∃ b off, some a = some (⟨b, off, none⟩ : Addr) ∧ b < w.heap.size ∧ at_ w w.heap.size b (off + k * size) o) ∧ Q o := by
      intro k hk
      obtain ⟨cs', hc, ht'⟩ := hcell k (by omega)
      obtain ⟨_, hcl, hat⟩ := World.cells?_some hc
      have hspot : a.spot = none := by
        obtain ⟨ds', hc', _⟩ := hcell 0 (by omega)
        obtain ⟨_, hcl', hat'⟩ := World.cells?_some hc'
        have h0 := hat' 0 (by omega)
        have hv0 : ds'[0]? = some (ds'[0]'(by omega)) := List.getElem?_eq_getElem (by omega)
        rw [hv0] at h0
        simpa [Addr.add] using World.cell?_spot h0
      obtain ⟨b, off, spot⟩ := a
      simp only at hspot
      subst hspot
      have h0 := hat 0 (by omega)
      have hv0 : cs'[0]? = some (cs'[0]'(by omega)) := List.getElem?_eq_getElem (by omega)
      rw [hv0] at h0
      have hlt0 := World.block_lt_of_cell? w _ h0
      rw [add_none, add_none] at hlt0
      obtain ⟨o, ho, hq⟩ := elem _ b (off + k * size) cs' (D k) (Pl k) (fun x hx => hr x (by
        rw [hd]
        simp only [DataW.weights, ht, List.mem_cons, List.mem_append]
        refine .inr (.inl (weights_of (d := D k) ?_ x hx))
        exact List.mem_map.2 ⟨k, List.mem_range.2 hk, rfl⟩)) ht' hcl (fun j u hu => by
          have hj : j < size := by have := (List.getElem?_eq_some_iff.1 hu).1; omega
          have := hat j hj
          rw [add_none, add_none] at this
          exact this.trans hu)
      exact ⟨o, ⟨b, off, rfl, hlt0, ho⟩, hq⟩
    obtain ⟨L, hL, hP⟩ := listP_of len hone
    refine ⟨some a, cap, L, by rw [hL], fun k o ho => (hP k o ho).1, ?_, fun x hx => ?_⟩
    · simp only [reachBytes] at hlen
      rw [hL]
      exact Nat.le_trans (Nat.mul_le_mul_right _ (by omega)) hlen
    · obtain ⟨k, hk⟩ := List.mem_iff_getElem?.1 hx
      exact (hP k x hk).2

theorem cells_val : Tryz.prog.cellsOf 42 = 5 := by kernel_rfl
theorem cells_kv : Tryz.prog.cellsOf 44 = 6 := by kernel_rfl
theorem one_i : Tryz.prog.cellsOf 3 = 1 := by kernel_rfl
theorem one_n : Tryz.prog.cellsOf 2 = 1 := by kernel_rfl
theorem one_s : Tryz.prog.cellsOf 9 = 1 := by kernel_rfl
theorem one_ns : Tryz.prog.cellsOf 39 = 1 := by kernel_rfl
theorem one_ts : Tryz.prog.cellsOf 40 = 1 := by kernel_rfl

set_option maxRecDepth 100000 in
theorem str_reach {d : DataW H} {s : ByteArray} (h : d = .lit (.string s.data.toList)) (hr : ∀ m ∈ d.weights Tryz.prog 9, m ≤ reachBytes) : s.size ≤ 140737488351232 := by
  have := hr s.data.toList.length (by rw [h]; simp [DataW.weights])
  simp only [reachBytes] at this
  have h2 : s.data.toList.length = s.size := by rw [Array.length_toList]; rfl
  omega

set_option maxRecDepth 100000 in
theorem value_of {w : World} {n : Nat} {cs : List Value} {d : DataW H} {p : List MemPlace} (hr : ∀ m ∈ d.weights Tryz.prog 42, m ≤ reachBytes)
    (h : DataW.trod enc Tryz.prog w 0 (fun _ => true) true n 42 cs = some (d, p)) :
    ∃ (val : Vv) (A : Option Addr) (c : Nat) (A' : Option Addr) (c' : Nat), cs = [.int .i64 val.k, .int .i64 val.n, .string val.s, .slice A val.ns.length c, .slice A' val.ts.length c'] ∧ RL ivl w w.heap.size A val.ns ∧ RL svl w w.heap.size A' val.ts ∧ Vok val := by
  obtain ⟨xs, m, _, hx, hl, hlen, hf⟩ := DataW.trod_struct Tryz.underlying42 h
  rw [cells_val] at hl
  match cs, hl, xs, hlen with
  | [k0, k1, k2, k3, k4], _, [y0, y1, y2, y3, y4], _ =>
    simp only [Prod.mk.injEq] at hx
    obtain ⟨hd, hp⟩ := hx
    have g0 : DataW.trod enc Tryz.prog w 0 (fun _ => true) true m 3 [k0] = some y0 := by simpa [one_i] using hf 0 _ rfl
    have g1 : DataW.trod enc Tryz.prog w 0 (fun _ => true) true m 2 [k1] = some y1 := by simpa [one_n] using hf 1 _ rfl
    have g2 : DataW.trod enc Tryz.prog w 0 (fun _ => true) true m 9 [k2] = some y2 := by simpa [one_s] using hf 2 _ rfl
    have g3 : DataW.trod enc Tryz.prog w 0 (fun _ => true) true m 39 [k3] = some y3 := by simpa [one_ns] using hf 3 _ rfl
    have g4 : DataW.trod enc Tryz.prog w 0 (fun _ => true) true m 40 [k4] = some y4 := by simpa [one_ts] using hf 4 _ rfl
    have hwt : ∀ m, m ∈ y2.1.weights Tryz.prog 9 ∨ m ∈ y3.1.weights Tryz.prog 39 ∨ m ∈ y4.1.weights Tryz.prog 40 → m ≤ reachBytes := fun m hm => hr m (by
      rw [hd]
      simp only [DataW.weights, Tryz.underlying42, List.map_cons, List.map_nil]
      simp only [DataW.weightsEach, List.mem_append]
      rcases hm with hm | hm | hm
      · exact .inr (.inr (.inl hm))
      · exact .inr (.inr (.inr (.inl hm)))
      · exact .inr (.inr (.inr (.inr (.inl hm)))))
    obtain ⟨a, e0, _, wa⟩ := DataW.trod_int Tryz.underlying3 g0
    obtain ⟨b, e1, _, wb⟩ := DataW.trod_int Tryz.underlying2 g1
    obtain ⟨s, e2, e2', _⟩ := DataW.trod_string Tryz.underlying9 g2
    simp only [List.cons.injEq, and_true] at e0 e1 e2
    subst e0 e1 e2
    obtain ⟨A, ns, c, rfl, r3, n3, b3⟩ := open_i64s Tryz.underlying39 Tryz.underlying2 one_n (by kernel_rfl) (fun m hm => hwt m (.inr (.inl hm))) g3
    obtain ⟨A', ts, c', rfl, r4, n4, b4⟩ := open_strs1 Tryz.underlying40 Tryz.underlying9 one_s (by kernel_rfl) (fun m hm => hwt m (.inr (.inr hm))) g4
    have hss := str_reach (d := y2.1) (s := s) (by rw [e2']) (fun m hm => hwt m (.inl hm))
    have ba := bounds_i64 wa
    have bb := bounds_i64 wb
    exact ⟨⟨a, b, s, ns, ts⟩, A, c, A', c', rfl, r3, r4, ⟨ba.1, ba.2, bb.1, bb.2, hss, n3, b3, n4, b4⟩⟩

set_option maxRecDepth 100000 in
theorem kv_of {w : World} (n b off : Nat) (cs : List Value) (d : DataW H) (p : List MemPlace) (hr : ∀ m ∈ d.weights Tryz.prog 44, m ≤ reachBytes)
    (h : DataW.trod enc Tryz.prog w 0 (fun _ => true) true n 44 cs = some (d, p)) (hl : cs.length = 6) (hc : ∀ j u, cs[j]? = some u → w.cell? ⟨b, off + j, none⟩ = some u) :
    ∃ o : Kv, KvAt w w.heap.size b off o ∧ True := by
  obtain ⟨xs, m, _, hx, _, hlen, hf⟩ := DataW.trod_struct Tryz.underlying44 h
  match cs, hl, xs, hlen with
  | [k0, k1, k2, k3, k4, k5], _, [y0, y1], _ =>
    simp only [Prod.mk.injEq] at hx
    obtain ⟨hd, hp⟩ := hx
    have g0 : DataW.trod enc Tryz.prog w 0 (fun _ => true) true m 3 [k0] = some y0 := by simpa [one_i] using hf 0 _ rfl
    have g1 : DataW.trod enc Tryz.prog w 0 (fun _ => true) true m 42 [k1, k2, k3, k4, k5] = some y1 := by simpa [cells_val] using hf 1 _ rfl
    have hwt : ∀ m, m ∈ y0.1.weights Tryz.prog 3 ∨ m ∈ y1.1.weights Tryz.prog 42 → m ≤ reachBytes := fun m hm => hr m (by
      rw [hd]
      simp only [DataW.weights, Tryz.underlying44, List.map_cons, List.map_nil]
      simp only [DataW.weightsEach, List.mem_append]
      rcases hm with hm | hm
      · exact .inl hm
      · exact .inr (.inl hm))
    obtain ⟨s, e2, _, wa⟩ := DataW.trod_int Tryz.underlying3 g0
    simp only [List.cons.injEq, and_true] at e2
    subst e2
    have hss := bounds_i64 wa
    obtain ⟨val, A, c, A', c', e, r1, r2, ok⟩ := value_of (d := y1.1) (p := y1.2) (fun m hm => hwt m (.inr hm)) g1
    simp only [List.cons.injEq, and_true] at e
    obtain ⟨rfl, rfl, rfl, rfl, rfl⟩ := e
    exact ⟨⟨s, val⟩, ⟨A, c, A', c', fun i u hu => hc i u (by simpa [kcells] using hu), r1, r2, ok, hss⟩, trivial⟩

set_option maxRecDepth 100000 in
theorem open_kvs {w : World} {d : DataW H} {v : Value} {p : List MemPlace} {b0 : Nat} {r : Reach} (hv : Value.okWide Tryz.prog w r b0 22 v)
    (hr : ∀ m ∈ d.weights Tryz.prog 22, m ≤ reachBytes) (h : DataW.Trod enc Tryz.prog w 0 (fun _ => true) true 22 v d p) (hlt : ∀ x ∈ p, x.block < w.heap.size) :
    ∃ (A : Option Addr) (L : List Kv) (c : Nat), v = .slice A L.length c ∧ KvsR w w.heap.size A L ∧ L.length * 88 ≤ 140737488351232 := by
  obtain ⟨A, n, c, rfl⟩ := okWide_slice Tryz.underlying22 hv
  obtain ⟨fuel, hf⟩ := h
  obtain ⟨A', c', L, e, r1, b1, _⟩ := open_rows (d := d) (p := p) KvAt (fun _ => True) Tryz.underlying22 cells_kv (by omega) (show Tryz.prog.bytesOf 44 = 88 by kernel_rfl) kv_of hr (by simpa [Value.cells] using hf)
  exact ⟨A', L, c', e, r1, b1⟩
end
end Go.Proofs.YtgpahglmhnnobaaGreatDoor
