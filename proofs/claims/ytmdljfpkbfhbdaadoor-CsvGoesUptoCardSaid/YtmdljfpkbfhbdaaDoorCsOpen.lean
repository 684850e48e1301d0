/- csv: how texts and rows that came in are opened, of the second form. -/
import Derived.Test.YtmdljfpkbfhbdaaDoorCsPrint2
import Derived.Test.YtmdljfpkbfhbdaaDoorOpen
import Derived.Test.YtmdljfpkbfhbdaaDoorBulk
import Derived.SliceStrings
import Derived.Deep.Slices
namespace Go.Proofs.YtmdljfpkbfhbdaaDoor
open Go.ChangeShapes Go.WideShapes Go.ChangeAt Go.RowKit Go.Deep
open Go.ChangeMaps (open_string)
set_option linter.unusedVariables false

section
variable {H : Type} {enc : TypeId × Value → H} {P : Program}
theorem weights_of {e : TypeId} {l : List (DataW H)} {d : DataW H} (h : d ∈ l) : ∀ n ∈ d.weights P e, n ∈ DataW.weightsAll P e l := by
  induction l with
  | nil => cases h
  | cons x r ih =>
    intro n hn
    simp only [DataW.weightsAll, List.mem_append]
    rcases List.mem_cons.1 h with rfl | h
    · exact .inl hn
    · exact .inr (ih h n hn)
theorem bulk_strs : ∀ L : List ByteArray, Rows.uptoBulkAll (strs (H := H) L) = (L.map fun t => t.size + 1).sum
  | [] => rfl
  | s :: r => by
    have ih := bulk_strs r
    have h2 : s.data.toList.length = s.size := by rw [Array.length_toList]; rfl
    simp only [strs, List.map_cons, Rows.uptoBulkAll, Rows.uptoBulk, List.sum_cons] at ih ⊢
    omega
theorem open_strsU {w : World} {t e : TypeId} {fuel : Nat} {v : Value} {y : DataW H × List MemPlace} (ht : P.underlying t = some (.slice e)) (he : P.underlying e = some .string) (hc : P.cellsOf e = 1) (hby : P.bytesOf e = 16)
    (hr : ∀ m ∈ y.1.weights P t, m ≤ reachBytes) (h : DataW.trod enc P w 0 (fun _ => true) true fuel t [v] = some y) :
    ∃ q : Rq, v = q.v ∧ RL svl w w.heap.size q.A q.L ∧ q.L.length ≤ q.c ∧ q.c ≤ maxLen ∧ (q.L.map fun t => t.size + 1).sum + 1 ≤ Rows.uptoBulk y.1 := by
  rcases open_strings ht he hc h with ⟨hcs, _⟩ | ⟨x, l, c, zs, hcs, _, hl, hm, hz, hx, hcell, hwz⟩
  · simp only [List.cons.injEq, and_true] at hcs
    subst hcs
    have := bulk_one y.1
    exact ⟨⟨none, 0, []⟩, rfl, RL.empty _ _ _ _, Nat.le_refl _, Nat.zero_le _, by simpa using this⟩
  · simp only [List.cons.injEq, and_true] at hcs
    subst hcs
    simp only [if_true] at hz
    have hcap : c * 16 ≤ 140737488351232 := by
      have := hr (((strs (H := H) (zs.take l)).length + (strs (H := H) (zs.drop l)).length) * 16) (by rw [hx]; simp [DataW.weights, ht, hby])
      simp only [strs, List.length_map, List.length_take, List.length_drop, reachBytes] at this
      omega
    have hn : (zs.take l).length = l := by rw [List.length_take]; omega
    refine ⟨⟨some x, c, zs.take l⟩, by simp only [Rq.v, hn], ⟨⟨by simp, fun h0 => ?_⟩, fun z _ => svl_ok z⟩, by simp only [hn]; omega, by simp only [maxLen]; omega, ?_⟩
    · simp only [hn] at h0
      refine ⟨x, rfl, ?_, fun j u hj => ?_⟩
      · have := cell_lt (hcell 0 (by omega))
        rwa [block_of_add] at this
      · have hjn : j < l := by
          have := (List.getElem?_eq_some_iff.1 hj).1
          rw [List.length_map, hn] at this; exact this
        rw [hcell j (by omega)]
        have hj' : j < zs.length := by omega
        simp only [List.getElem?_map, List.getElem?_take_of_lt hjn, List.getElem?_eq_getElem hj', Option.map_some, Option.some.injEq] at hj
        rw [← hj]
        simp [List.getD_eq_getElem?_getD, List.getElem?_eq_getElem hj']
    · rw [hx]
      simp only [← bulk_slice]
      rw [bulk_strs]
      omega
theorem listQ_of {α : Type} {P : Nat → α → Prop} (n : Nat) (h : ∀ i, i < n → ∃ x, P i x) : ∃ L : List α, L.length = n ∧ ∀ i x, L[i]? = some x → P i x := by
  induction n with
  | zero => exact ⟨[], rfl, fun i x hx => by simp at hx⟩
  | succ n ih =>
    obtain ⟨L, hl, hL⟩ := ih fun i hi => h i (by omega)
    obtain ⟨x, hx⟩ := h n (by omega)
    refine ⟨L ++ [x], by simp [hl], fun i y hy => ?_⟩
    rcases Nat.lt_or_ge i n with hi | hi
    · rw [List.getElem?_append_left (by omega)] at hy; exact hL i y hy
    · rw [List.getElem?_append_right (by omega)] at hy
      have : i - L.length = 0 := by
        have := (List.getElem?_eq_some_iff.1 hy).1
        simpa using this
      rw [this] at hy
      simp at hy
      subst hy
      obtain rfl : i = n := by omega
      exact hx
theorem sum_bulkQ {α : Type} {f : α → Nat} : ∀ {L : List α} {D : Nat → DataW H}, (∀ k x, L[k]? = some x → f x ≤ Rows.uptoBulk (D k)) → (L.map f).sum ≤ Rows.uptoBulkAll ((List.range L.length).map D)
  | [], D, _ => by simp
  | a :: l, D, h => by
    have h0 := h 0 a rfl
    have ih := sum_bulkQ (L := l) (D := fun k => D (k + 1)) fun k x hx => h (k + 1) x (by simpa using hx)
    rw [List.length_cons, List.range_succ_eq_map, List.map_cons, List.sum_cons, List.map_cons, List.map_map]
    simp only [Rows.uptoBulkAll]
    have e : (List.range l.length).map (D ∘ Nat.succ) = (List.range l.length).map fun k => D (k + 1) := rfl
    rw [e]
    omega
end
theorem one_strs : Tryd.prog.cellsOf 40 = 1 := by kernel_rfl
theorem row_bulk (r : Rw) : rowW r ≤ 3 * ((r.map fun t => t.size + 1).sum + 1) := by
  have h : ∀ r : Rw, (r.map fun f => 2 * f.size + 3).sum ≤ 3 * (r.map fun t => t.size + 1).sum := by
    intro r
    induction r with
    | nil => exact Nat.le_refl _
    | cons g r ih =>
      simp only [List.map_cons, List.sum_cons]
      omega
  have := h r
  unfold rowW
  omega
/-- few rows -/
def RFew (X : List Rq) : Prop := rowsW (rowsOf X) ≤ 3145728 ∧ X.length ≤ 1048576
section
variable {H : Type} {enc : TypeId × Value → H}
set_option maxRecDepth 100000 in
theorem open_csvrows {w : World} {d : DataW H} {v : Value} {p : List MemPlace} {b0 : Nat} {r : Reach} (hv : Value.okWide Tryd.prog w r b0 22 v)
    (hr : ∀ m ∈ d.weights Tryd.prog 22, m ≤ reachBytes) (h : DataW.Trod enc Tryd.prog w 0 (fun _ => true) true 22 v d p) (hlt : ∀ x ∈ p, x.block < w.heap.size) (hu : Rows.uptoBulk d ≤ 1048576) :
    ∃ A X c, v = .slice A X.length c ∧ (RsR w w.heap.size A X ∧ X.length ≤ c ∧ c ≤ maxLen ∧ RFew X) := by
  obtain ⟨A0, n0, c0, rfl⟩ := okWide_slice Tryd.underlying22 hv
  obtain ⟨fuel, h⟩ := h
  rcases open_slice Tryd.underlying22 h with ⟨hcs, _⟩ | ⟨a, len, cap, m, n', D, Pl, hcs, _, hl, hm, hmm, hx, hcell⟩
  · simp [Value.cells] at hcs
    obtain ⟨rfl, rfl, rfl⟩ := hcs
    exact ⟨none, [], 0, rfl, ⟨RL.empty _ _ _ _, fun q hq => by cases hq⟩, Nat.le_refl _, Nat.zero_le _, by simp [rowsW], by simp⟩
  · simp [Value.cells] at hcs
    obtain ⟨rfl, rfl, rfl⟩ := hcs
    simp only [if_true] at hmm
    simp only [Prod.mk.injEq] at hx
    obtain ⟨hd, hp⟩ := hx
    rw [one_strs] at hcell
    have hlen : (n0 + (m - n0)) * 24 ≤ reachBytes := hr _ (by
      rw [hd]
      simp only [DataW.weights, Tryd.underlying22, show Tryd.prog.bytesOf 40 = 24 by kernel_rfl, List.length_map, List.length_range]
      exact List.mem_cons_self)
    simp only [reachBytes] at hlen
    have hone : ∀ k, k < n0 → ∃ q : Rq, (∃ b off, some a = some (⟨b, off, none⟩ : Addr) ∧ b < w.heap.size ∧ w.cell? ⟨b, off + k, none⟩ = some q.v) ∧ (RL svl w w.heap.size q.A q.L ∧ q.L.length ≤ q.c ∧ q.c ≤ maxLen) ∧ (q.L.map fun t => t.size + 1).sum + 1 ≤ Rows.uptoBulk (D k) := by
      intro k hk
      obtain ⟨cs', hc, ht'⟩ := hcell k (by omega)
      obtain ⟨_, hcl, hat⟩ := World.cells?_some hc
      have hspot : a.spot = none := by
        obtain ⟨ds', hc', _⟩ := hcell 0 (by omega)
        obtain ⟨_, hcl', hat'⟩ := World.cells?_some hc'
        have h0 := hat' 0 (by omega)
        have hv0 : ds'[0]? = some (ds'[0]'(by omega)) := List.getElem?_eq_getElem (by omega)
        rw [hv0] at h0
        simpa [Addr.add] using World.cell?_spot h0
      obtain ⟨b, off, spot⟩ := a
      simp only at hspot
      subst hspot
      have h0 := hat 0 (by omega)
      obtain ⟨u, rfl⟩ : ∃ u, cs' = [u] := by
        match cs', hcl with
        | [u], _ => exact ⟨u, rfl⟩
      rw [add_none, add_none] at h0
      simp only [List.getElem?_cons_zero, Nat.mul_one, Nat.add_zero] at h0
      have hlt0 := World.block_lt_of_cell? w _ h0
      obtain ⟨q, rfl, h1, h2, h3, h4⟩ := open_strsU Tryd.underlying40 Tryd.underlying9 (by kernel_rfl) (by kernel_rfl) (fun x hx => hr x (by
        rw [hd]
        simp only [DataW.weights, Tryd.underlying22, List.mem_cons, List.mem_append]
        refine .inr (.inl (weights_of (d := D k) ?_ x hx))
        exact List.mem_map.2 ⟨k, List.mem_range.2 hk, rfl⟩)) ht'
      exact ⟨q, ⟨b, off, rfl, hlt0, h0⟩, ⟨h1, h2, h3⟩, h4⟩
    obtain ⟨X, hX, hP⟩ := listQ_of n0 hone
    have hb := sum_bulkQ (D := D) (f := fun q : Rq => (q.L.map fun t => t.size + 1).sum + 1) (L := X) fun k x hx => (hP k x hx).2.2
    rw [hX] at hb
    have hbulk : (X.map fun q : Rq => (q.L.map fun t => t.size + 1).sum + 1).sum ≤ 1048576 := by
      rw [hd, ← bulk_slice] at hu
      omega
    refine ⟨some a, X, c0, by rw [hX], ⟨⟨⟨by simp, fun h0 => ?_⟩, fun q _ => rqv_ok q⟩, fun q hq => ?_⟩, by omega, by simp only [maxLen]; omega, ?_, ?_⟩
    · have h1 : 0 < X.length := h0
      obtain ⟨⟨b, off, he, hlt1, -⟩, -, -⟩ := hP 0 X[0] (List.getElem?_eq_getElem h1)
      refine ⟨a, rfl, ?_, fun j u hj => ?_⟩
      · injection he with he
        rw [he]
        exact hlt1
      · rw [List.getElem?_map] at hj
        obtain ⟨q, hq, rfl⟩ := Option.map_eq_some_iff.1 hj
        obtain ⟨⟨b2, off2, he2, -, hc2⟩, -, -⟩ := hP j q hq
        injection he2 with he2
        rw [he2, add_none]
        exact hc2
    · obtain ⟨k, hk⟩ := List.mem_iff_getElem?.1 hq
      exact (hP k q hk).2.1
    · have hs : ∀ X : List Rq, rowsW (rowsOf X) ≤ 3 * (X.map fun q : Rq => (q.L.map fun t => t.size + 1).sum + 1).sum := by
        intro X
        induction X with
        | nil => exact Nat.le_refl _
        | cons q X ih =>
          have := row_bulk q.L
          simp only [rowsW, rowsOf, List.map_cons, List.sum_cons] at ih ⊢
          omega
      have := hs X
      omega
    · have hs : ∀ X : List Rq, X.length ≤ (X.map fun q : Rq => (q.L.map fun t => t.size + 1).sum + 1).sum := by
        intro X
        induction X with
        | nil => exact Nat.le_refl _
        | cons q X ih =>
          simp only [List.length_cons, List.map_cons, List.sum_cons]
          omega
      have := hs X
      omega
set_option maxRecDepth 100000 in
theorem open_csvtext {w : World} {d : DataW H} {v : Value} {p : List MemPlace} {b0 : Nat} {r : Reach} (hv : Value.okWide Tryd.prog w r b0 9 v)
    (hr : ∀ m ∈ d.weights Tryd.prog 9, m ≤ reachBytes) (h : DataW.Trod enc Tryd.prog w 0 (fun _ => true) true 9 v d p) (hlt : ∀ x ∈ p, x.block < w.heap.size) (hu : Rows.uptoBulk d ≤ 1048576) :
    ∃ s : ByteArray, v = .string s ∧ s.size ≤ 1048576 := by
  obtain ⟨s, rfl, rfl, rfl, hs⟩ := open_string Tryd.underlying9 hv h
  refine ⟨s, rfl, ?_⟩
  simp only [Rows.uptoBulk] at hu
  have h2 : s.data.toList.length = s.size := by rw [Array.length_toList]; rfl
  omega
end
end Go.Proofs.YtmdljfpkbfhbdaaDoor
