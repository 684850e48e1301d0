/- How a list of frames that comes in is opened, of the second form: how many bytes it holds at most. -/
import Derived.Test.YtkdlehekignnhaaDoorFrOpen
import Derived.Test.YtkdlehekignnhaaDoorBulk
import Derived.Test.YtkdlehekignnhaaDoorSep
import Derived.Deep.Slices
namespace Go.Proofs.YtkdlehekignnhaaDoor
open Go.ChangeShapes Go.WideShapes Go.ChangeAt Go.RowKit Go.Joins Go.Deep
set_option linter.unusedVariables false

/-- one frame that came in -/
structure Fi where
  t : Int
  d : List Nat
instance : Inhabited Fi := ⟨⟨0, []⟩⟩
def FiAt (w : World) (B b off : Nat) (o : Fi) : Prop :=
  ∃ A c, w.cell? ⟨b, off, none⟩ = some (.int .i64 o.t) ∧ w.cell? ⟨b, off + 1, none⟩ = some (.slice A o.d.length c) ∧ RB w B A o.d ∧ o.d.length ≤ c ∧ c ≤ 140737488351232 ∧ (-9223372036854775808 ≤ o.t ∧ o.t ≤ 9223372036854775807)
def FisR (w : World) (B : Nat) (A : Option Addr) (L : List Fi) : Prop :=
  ∀ k o, L[k]? = some o → ∃ b off, A = some ⟨b, off, none⟩ ∧ b < B ∧ FiAt w B b (off + k * 2) o
theorem FiAt.below {w w' : World} {B B' b off : Nat} {o : Fi} (h : FiAt w B b off o) (hb : Below B w w') (hB : B ≤ B') (hlt : b < B) : FiAt w' B b off o := by
  obtain ⟨A, c, h0, h1, h2, h3⟩ := h
  exact ⟨A, c, (hb.cell (p := ⟨b, off, none⟩) hlt).trans h0, (hb.cell (p := ⟨b, off + 1, none⟩) hlt).trans h1, h2.below' hb (Nat.le_refl _), h3⟩
theorem FisR.below {w w' : World} {B : Nat} {A : Option Addr} {L : List Fi} (h : FisR w B A L) (hb : Below B w w') : FisR w' B A L := fun k o ho => by
  obtain ⟨b, off, e, hlt, h⟩ := h k o ho
  exact ⟨b, off, e, hlt, h.below hb (Nat.le_refl _) hlt⟩
section
variable {H : Type} {enc : TypeId × Value → H}
theorem listF_of {α : Type} {P : Nat → α → Prop} (n : Nat) (h : ∀ i, i < n → ∃ x, P i x) : ∃ L : List α, L.length = n ∧ ∀ i x, L[i]? = some x → P i x := by
  induction n with
  | zero => exact ⟨[], rfl, fun i x hx => by simp at hx⟩
  | succ n ih =>
    obtain ⟨L, hl, hL⟩ := ih fun i hi => h i (by omega)
    obtain ⟨x, hx⟩ := h n (by omega)
    refine ⟨L ++ [x], by simp [hl], fun i y hy => ?_⟩
    rcases Nat.lt_or_ge i n with hi | hi
    · rw [List.getElem?_append_left (by omega)] at hy; exact hL i y hy
    · rw [List.getElem?_append_right (by omega)] at hy
      have : i - L.length = 0 := by
        have := (List.getElem?_eq_some_iff.1 hy).1
        simpa using this
      rw [this] at hy
      simp at hy
      subst hy
      obtain rfl : i = n := by omega
      exact hx
theorem weights_elemF {P : Program} {e : TypeId} {l : List (DataW H)} {d : DataW H} (h : d ∈ l) : ∀ n ∈ d.weights P e, n ∈ DataW.weightsAll P e l := by
  induction l with
  | nil => cases h
  | cons x r ih =>
    intro n hn
    simp only [DataW.weightsAll, List.mem_append]
    rcases List.mem_cons.1 h with rfl | h
    · exact .inl hn
    · exact .inr (ih h n hn)
theorem sum_bulkF {α : Type} {f : α → Nat} : ∀ {L : List α} {D : Nat → DataW H}, (∀ k x, L[k]? = some x → f x ≤ Rows.uptoBulk (D k)) → (L.map f).sum ≤ Rows.uptoBulkAll ((List.range L.length).map D)
  | [], D, _ => by simp
  | a :: l, D, h => by
    have h0 := h 0 a rfl
    have ih := sum_bulkF (L := l) (D := fun k => D (k + 1)) fun k x hx => h (k + 1) x (by simpa using hx)
    rw [List.length_cons, List.range_succ_eq_map, List.map_cons, List.sum_cons, List.map_cons, List.map_map]
    simp only [Rows.uptoBulkAll]
    have e : (List.range l.length).map (D ∘ Nat.succ) = (List.range l.length).map fun k => D (k + 1) := rfl
    rw [e]
    omega
set_option maxRecDepth 100000 in
theorem fi_of {w : World} {n b off : Nat} {cs : List Value} {d : DataW H} {p : List MemPlace} (hr : ∀ m ∈ d.weights Tryd.prog 25, m ≤ reachBytes)
    (h : DataW.trod enc Tryd.prog w 0 (fun _ => true) true n 25 cs = some (d, p)) (hc : ∀ j u, cs[j]? = some u → w.cell? ⟨b, off + j, none⟩ = some u) :
    ∃ o : Fi, FiAt w w.heap.size b off o ∧ o.d.length + 2 ≤ Rows.uptoBulk d := by
  obtain ⟨xs, m, _, hx, hl, hlen, hf⟩ := DataW.trod_struct Tryd.underlying25 h
  rw [cells_frame] at hl
  match cs, hl, xs, hlen with
  | [c0, c1], _, [y0, y1], _ =>
    have h0 : DataW.trod enc Tryd.prog w 0 (fun _ => true) true m 3 [c0] = some y0 := by
      have := hf 0 _ rfl
      simpa [show Tryd.prog.cellsOf 3 = 1 by kernel_rfl] using this
    have h1 : DataW.trod enc Tryd.prog w 0 (fun _ => true) true m 23 [c1] = some y1 := by
      have := hf 1 _ rfl
      simpa [show Tryd.prog.cellsOf 23 = 1 by kernel_rfl] using this
    obtain ⟨a, e0, _, wa⟩ := DataW.trod_int Tryd.underlying3 h0
    obtain ⟨A, l, c, hs⟩ := Joins.slice_form Tryd.underlying23 h1
    simp only [List.cons.injEq, and_true] at e0 hs
    subst e0 hs
    simp only [Prod.mk.injEq] at hx
    obtain ⟨hd, hp⟩ := hx
    have T1 : DataW.Trod enc Tryd.prog w 0 (fun _ => true) true 23 (.slice A l c) y1.1 y1.2 := ⟨m, h1⟩
    have hu := bytes_bulk Tryd.underlying23 Tryd.underlying5 (by kernel_rfl) T1
    obtain ⟨bs, rfl, hb1, hb2, hb3⟩ := open_bytes (d := y1.1) (p := y1.2) Tryd.underlying23 Tryd.underlying5 (by kernel_rfl) (by kernel_rfl)
      (fun x hx => hr x (by
        rw [hd]
        simp only [DataW.weights, Tryd.underlying25]
        simp only [List.map_cons, DataW.weightsEach, List.mem_append]
        exact .inr (.inl hx))) T1
    refine ⟨⟨a, bs⟩, ⟨A, c, hc 0 _ rfl, hc 1 _ rfl, hb1, hb2, hb3, bounds_i64 wa⟩, ?_⟩
    rw [hd]
    simp only [Rows.uptoBulk, Rows.uptoBulkAll, List.map_cons, List.map_nil]
    have := bulk_one y0.1
    omega
set_option maxRecDepth 100000 in
theorem open_frames {w : World} {d : DataW H} {v : Value} {p : List MemPlace} {b0 : Nat} {r : Reach} (hv : Value.okWide Tryd.prog w r b0 35 v)
    (hr : ∀ m ∈ d.weights Tryd.prog 35, m ≤ reachBytes) (h : DataW.Trod enc Tryd.prog w 0 (fun _ => true) true 35 v d p) (hlt : ∀ x ∈ p, x.block < w.heap.size) (hu : Rows.uptoBulk d ≤ 1048576) :
    ∃ (A : Option Addr) (L : List Fi) (c : Nat), v = .slice A L.length c ∧ FisR w w.heap.size A L ∧ (L.map fun o => o.d.length + 2).sum ≤ 1048576 := by
  obtain ⟨A, n, c, rfl⟩ := okWide_slice Tryd.underlying35 hv
  obtain ⟨fuel, hf⟩ := h
  rcases open_slice Tryd.underlying35 hf with ⟨hcs, _⟩ | ⟨a, len, cap, m, n', D, Pl, hcs, _, hl, hm, hmm, hx, hcell⟩
  · simp [Value.cells] at hcs
    obtain ⟨rfl, rfl, rfl⟩ := hcs
    exact ⟨none, [], 0, rfl, fun k o ho => by simp at ho, by simp⟩
  · simp [Value.cells] at hcs
    obtain ⟨rfl, rfl, rfl⟩ := hcs
    simp only [if_true] at hmm
    simp only [Prod.mk.injEq] at hx
    obtain ⟨hd, hp⟩ := hx
    rw [cells_frame] at hcell
    have hone : ∀ k, k < n → ∃ o : Fi, (∃ b off, some a = some (⟨b, off, none⟩ : Addr) ∧ b < w.heap.size ∧ FiAt w w.heap.size b (off + k * 2) o) ∧ o.d.length + 2 ≤ Rows.uptoBulk (D k) := by
      intro k hk
      obtain ⟨cs', hc, ht'⟩ := hcell k (by omega)
      obtain ⟨_, hcl, hat⟩ := World.cells?_some hc
      have hspot : a.spot = none := by
        obtain ⟨ds', hc', _⟩ := hcell 0 (by omega)
        obtain ⟨_, hcl', hat'⟩ := World.cells?_some hc'
        have h0 := hat' 0 (by omega)
        have hv0 : ds'[0]? = some (ds'[0]'(by omega)) := List.getElem?_eq_getElem (by omega)
        rw [hv0] at h0
        simpa [Addr.add] using World.cell?_spot h0
      obtain ⟨b, off, spot⟩ := a
      simp only at hspot
      subst hspot
      have h0 := hat 0 (by omega)
      have hv0 : cs'[0]? = some (cs'[0]'(by omega)) := List.getElem?_eq_getElem (by omega)
      rw [hv0] at h0
      have hlt0 := World.block_lt_of_cell? w _ h0
      rw [add_none, add_none] at hlt0
      obtain ⟨o, ho, hfo⟩ := fi_of (b := b) (off := off + k * 2) (d := D k) (p := Pl k) (fun x hx => hr x (by
        rw [hd]
        simp only [DataW.weights, Tryd.underlying35, List.mem_cons, List.mem_append]
        refine .inr (.inl (weights_elemF (d := D k) ?_ x hx))
        exact List.mem_map.2 ⟨k, List.mem_range.2 hk, rfl⟩)) ht' (fun j u hu => by
          have hj : j < 2 := by have := (List.getElem?_eq_some_iff.1 hu).1; omega
          have := hat j hj
          rw [add_none, add_none] at this
          exact this.trans hu)
      exact ⟨o, ⟨b, off, rfl, hlt0, ho⟩, hfo⟩
    obtain ⟨L, hL, hP⟩ := listF_of n hone
    refine ⟨some a, L, c, by rw [hL], fun k o ho => (hP k o ho).1, ?_⟩
    have hb := sum_bulkF (D := D) (f := fun o : Fi => o.d.length + 2) (L := L) fun k x hx => (hP k x hx).2
    rw [hL] at hb
    rw [hd, ← bulk_slice] at hu
    omega
end
end Go.Proofs.YtkdlehekignnhaaDoor
