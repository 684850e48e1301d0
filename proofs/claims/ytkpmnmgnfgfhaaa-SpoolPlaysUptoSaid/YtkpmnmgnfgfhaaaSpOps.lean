/- How the arguments of the spool laws are opened: a list of calls, and what is kept. -/
import Derived.Test.YtkpmnmgnfgfhaaaSpRef
import Derived.Test.YtkpmnmgnfgfhaaaBulk
import Derived.Deep.Slices
import Derived.Lib.SmallJoins
namespace Go.Proofs.Ytkpmnmgnfgfhaaa
open Go.ChangeShapes Go.WideShapes Go.ChangeAt Go.RowKit Go.Deep
set_option linter.unusedVariables false

/-- one call -/
structure Opv where
  kind : Int
  bs : List Nat
  ks : List Bool

/-- A call stands at offset off of block b; what it points to lies below block B. -/
def OpAt (w : World) (B b off : Nat) (o : Opv) : Prop :=
  ∃ A c A' c', w.cell? ⟨b, off, none⟩ = some (.int .i64 o.kind) ∧ w.cell? ⟨b, off + 1, none⟩ = some (.slice A o.bs.length c) ∧ w.cell? ⟨b, off + 2, none⟩ = some (.slice A' o.ks.length c') ∧
    RB w B A o.bs ∧ RL bvl w B A' o.ks ∧ (-9223372036854775808 ≤ o.kind ∧ o.kind ≤ 9223372036854775807)
theorem OpAt.below {w w' : World} {B b off : Nat} {o : Opv} (h : OpAt w B b off o) (hb : Below B w w') (hB : b < B) : OpAt w' B b off o := by
  obtain ⟨A, c, A', c', h0, h1, h2, h4, h5, h6⟩ := h
  exact ⟨A, c, A', c', (hb.cell (p := ⟨b, off, none⟩) hB).trans h0, (hb.cell (p := ⟨b, off + 1, none⟩) hB).trans h1, (hb.cell (p := ⟨b, off + 2, none⟩) hB).trans h2, h4.below hb, h5.below hb, h6⟩

/-- A list of calls at A. -/
def Ops (w : World) (B : Nat) (A : Option Addr) (L : List Opv) : Prop :=
  ∀ k o, L[k]? = some o → ∃ b off, A = some ⟨b, off, none⟩ ∧ b < B ∧ OpAt w B b (off + k * 3) o
theorem Ops.below {w w' : World} {B : Nat} {A : Option Addr} {L : List Opv} (h : Ops w B A L) (hb : Below B w w') : Ops w' B A L := by
  intro k o ho
  obtain ⟨b, off, h1, h2, h3⟩ := h k o ho
  exact ⟨b, off, h1, h2, h3.below hb h2⟩

/-- how much they are -/
def opsBulk (L : List Opv) : Nat := (L.map fun o => o.bs.length + o.ks.length + 4).sum

theorem list_of {α : Type} {P : Nat → α → Prop} (n : Nat) (h : ∀ i, i < n → ∃ x, P i x) : ∃ L : List α, L.length = n ∧ ∀ i x, L[i]? = some x → P i x := by
  induction n with
  | zero => exact ⟨[], rfl, fun i x hx => by simp at hx⟩
  | succ n ih =>
    obtain ⟨L, hl, hL⟩ := ih fun i hi => h i (by omega)
    obtain ⟨x, hx⟩ := h n (by omega)
    refine ⟨L ++ [x], by simp [hl], fun i y hy => ?_⟩
    rcases Nat.lt_or_ge i n with hi | hi
    · rw [List.getElem?_append_left (by omega)] at hy; exact hL i y hy
    · rw [List.getElem?_append_right (by omega)] at hy
      have : i - L.length = 0 := by
        have := (List.getElem?_eq_some_iff.1 hy).1
        simpa using this
      rw [this] at hy
      simp at hy
      subst hy
      obtain rfl : i = n := by omega
      exact hx
theorem bulk_list {H α : Type} (f : α → Nat) (L : List α) : ∀ D : Nat → DataW H, (∀ i x, L[i]? = some x → f x ≤ Rows.uptoBulk (D i)) → (L.map f).sum ≤ Rows.uptoBulkAll ((List.range L.length).map D) := by
  induction L with
  | nil => intro D _; simp
  | cons x r ih =>
    intro D h
    have h0 := h 0 x rfl
    have h1 := ih (fun i => D (i + 1)) fun i y hy => h (i + 1) y (by simpa using hy)
    rw [List.length_cons, List.range_succ_eq_map]
    simp only [List.map_cons, List.map_map, List.sum_cons, Rows.uptoBulkAll]
    have h2 : (fun i => D (i + 1)) = D ∘ Nat.succ := rfl
    rw [h2] at h1
    omega
theorem weights_elem {H : Type} {P : Program} {e : TypeId} {l : List (DataW H)} {d : DataW H} (h : d ∈ l) : ∀ n ∈ d.weights P e, n ∈ DataW.weightsAll P e l := by
  induction l with
  | nil => cases h
  | cons x r ih =>
    intro n hn
    simp only [DataW.weightsAll, List.mem_append]
    rcases List.mem_cons.1 h with rfl | h
    · exact .inl hn
    · exact .inr (ih h n hn)

theorem open_bools {H : Type} {enc : TypeId × Value → H} {P : Program} {w : World} {t e : TypeId} {fuel : Nat} {v : Value} {y : DataW H × List MemPlace} (ht : P.underlying t = some (.slice e)) (he : P.underlying e = some .bool) (hc : P.cellsOf e = 1)
    (h : DataW.trod enc P w 0 (fun _ => true) true fuel t [v] = some y) :
    ∃ (A : Option Addr) (ks : List Bool) (c : Nat), v = .slice A ks.length c ∧ RL bvl w w.heap.size A ks ∧ ks.length + 1 ≤ Rows.uptoBulk y.1 := by
  rcases DataW.trod_slice ht h with ⟨h0, h1⟩ | ⟨a, len, cap, elems, rest, n, _, hcs, rfl, _, hl, hm, hlen, hel, _, _⟩
  · simp only [List.cons.injEq, and_true] at h0
    subst h0
    exact ⟨none, [], 0, rfl, RL.empty _ _ _ _, by have := bulk_one y.1; simpa using this⟩
  · simp only [List.cons.injEq, and_true] at hcs
    subst hcs
    rw [hc] at hel
    have hone : ∀ i, i < len → ∃ b, w.cell? (a.add i) = some (bvl b) := by
      intro i hi
      have h1 := hel i hi
      rw [Nat.mul_one, List.getElem?_eq_getElem (by omega), Option.bind_eq_some_iff] at h1
      obtain ⟨cs', hcs, ht'⟩ := h1
      obtain ⟨b, rfl, _⟩ := DataW.trod_bool he ht'
      exact ⟨b, cell_of_cells?_one hcs⟩
    obtain ⟨ks, hks, hP⟩ := list_of len hone
    subst hks
    refine ⟨some a, ks, cap, rfl, ⟨⟨by simp, fun h0 => ⟨a, rfl, ?_, fun j u hj => ?_⟩⟩, fun b _ => ⟨by simp [bvl, undef], rfl⟩⟩, ?_⟩
    · obtain ⟨b, hb⟩ := hone 0 h0
      have := cell_lt hb
      rwa [block_of_add] at this
    · have hjn : j < ks.length := by
        have := (List.getElem?_eq_some_iff.1 hj).1
        simpa using this
      rw [List.getElem?_map, List.getElem?_eq_getElem hjn] at hj
      injection hj with hj
      rw [← hj]
      exact hP j _ (List.getElem?_eq_getElem hjn)
    · rw [← bulk_slice]
      have := bulk_length (elems.map (·.1))
      rw [List.length_map] at this
      omega

section
variable {H : Type} {enc : TypeId × Value → H}
theorem cells_op : Try.prog.cellsOf 34 = 3 := by kernel_rfl
theorem cells_int : Try.prog.cellsOf 3 = 1 := by kernel_rfl
theorem cells_sl : Try.prog.cellsOf 22 = 1 := by kernel_rfl
theorem cells_bl : Try.prog.cellsOf 32 = 1 := by kernel_rfl
theorem op_of {w : World} {n b off : Nat} {cs : List Value} {d : DataW H} {p : List MemPlace} (hr : ∀ m ∈ d.weights Try.prog 34, m ≤ reachBytes)
    (h : DataW.trod enc Try.prog w 0 (fun _ => true) true n 34 cs = some (d, p)) (hc : ∀ j u, cs[j]? = some u → w.cell? ⟨b, off + j, none⟩ = some u) :
    ∃ o : Opv, OpAt w w.heap.size b off o ∧ o.bs.length + o.ks.length + 4 ≤ Rows.uptoBulk d := by
  obtain ⟨xs, m, _, hx, hl, hlen, hf⟩ := DataW.trod_struct Try.underlying34 h
  rw [cells_op] at hl
  match cs, hl, xs, hlen with
  | [c0, c1, c2], _, [y0, y1, y2], _ =>
    have h0 : DataW.trod enc Try.prog w 0 (fun _ => true) true m 3 [c0] = some y0 := by
      have := hf 0 _ rfl
      simpa [cells_int] using this
    have h1 : DataW.trod enc Try.prog w 0 (fun _ => true) true m 22 [c1] = some y1 := by
      have := hf 1 _ rfl
      simpa [cells_sl] using this
    have h2 : DataW.trod enc Try.prog w 0 (fun _ => true) true m 32 [c2] = some y2 := by
      have := hf 2 _ rfl
      simpa [cells_bl] using this
    obtain ⟨a, e0, _, wa⟩ := DataW.trod_int Try.underlying3 h0
    obtain ⟨A, l, c, hs⟩ := Joins.slice_form Try.underlying22 h1
    simp only [List.cons.injEq, and_true] at e0 hs
    subst e0 hs
    simp only [Prod.mk.injEq] at hx
    obtain ⟨hd, hp⟩ := hx
    have T1 : DataW.Trod enc Try.prog w 0 (fun _ => true) true 22 (.slice A l c) y1.1 y1.2 := ⟨m, h1⟩
    have hbk := bytes_bulk Try.underlying22 Try.underlying5 (by kernel_rfl) T1
    obtain ⟨bs, rfl, hb1, hb2, hb3⟩ := open_bytes (d := y1.1) (p := y1.2) Try.underlying22 Try.underlying5 (by kernel_rfl) (by kernel_rfl)
      (fun x hx => hr x (by
        rw [hd]
        simp only [DataW.weights, Try.underlying34]
        simp only [List.map_cons, DataW.weightsEach, List.mem_append]
        exact .inr (.inl hx))) T1
    obtain ⟨A', ks, c', rfl, hk1, hk2⟩ := open_bools Try.underlying32 Try.underlying4 (by kernel_rfl) h2
    refine ⟨⟨a, bs, ks⟩, ⟨A, c, A', c', hc 0 _ rfl, hc 1 _ rfl, hc 2 _ rfl, hb1, hk1, bounds_i64 wa⟩, ?_⟩
    have q0 := bulk_one y0.1
    rw [hd]
    simp only [List.map_cons, List.map_nil, Rows.uptoBulk, Rows.uptoBulkAll]
    show bs.length + ks.length + 4 ≤ _
    omega

theorem open_ops {w : World} {d : DataW H} {v : Value} {p : List MemPlace} {b0 : Nat} {r : Reach} (hv : Value.okWide Try.prog w r b0 23 v)
    (hr : ∀ m ∈ d.weights Try.prog 23, m ≤ reachBytes) (h : DataW.Trod enc Try.prog w 0 (fun _ => true) true 23 v d p) (hlt : ∀ x ∈ p, x.block < w.heap.size) :
    ∃ (A : Option Addr) (n c : Nat), v = .slice A n c ∧ ∃ L : List Opv, L.length = n ∧ Ops w w.heap.size A L ∧ n ≤ 140737488351232 ∧ opsBulk L + 1 ≤ Rows.uptoBulk d := by
  obtain ⟨A, n, c, rfl⟩ := okWide_slice Try.underlying23 hv
  refine ⟨A, n, c, rfl, ?_⟩
  obtain ⟨fuel, hf⟩ := h
  rcases open_slice Try.underlying23 hf with ⟨hcs, _⟩ | ⟨a, len, cap, m, n', D, Pl, hcs, _, hl, hm, hmm, hx, hcell⟩
  · simp [Value.cells] at hcs
    obtain ⟨rfl, rfl, rfl⟩ := hcs
    exact ⟨[], rfl, fun k o ho => by simp at ho, by omega, by have := bulk_one d; simpa [opsBulk] using this⟩
  · simp [Value.cells] at hcs
    obtain ⟨rfl, rfl, rfl⟩ := hcs
    simp only [if_true] at hmm
    simp only [Prod.mk.injEq] at hx
    obtain ⟨hd, hp⟩ := hx
    rw [cells_op] at hcell
    have hby : Try.prog.bytesOf 34 = 56 := by kernel_rfl
    have hlen : (n + (m - n)) * 56 ≤ reachBytes := hr _ (by
      rw [hd]
      simp only [DataW.weights, Try.underlying23, hby, List.length_map, List.length_range]
      exact List.mem_cons_self)
    have hone : ∀ k, k < n → ∃ o : Opv, (∃ b off, some a = some (⟨b, off, none⟩ : Addr) ∧ b < w.heap.size ∧ OpAt w w.heap.size b (off + k * 3) o) ∧ o.bs.length + o.ks.length + 4 ≤ Rows.uptoBulk (D k) := by
      intro k hk
      obtain ⟨cs', hc, ht'⟩ := hcell k (by omega)
      obtain ⟨_, hcl, hat⟩ := World.cells?_some hc
      have hspot : a.spot = none := by
        obtain ⟨ds', hc', _⟩ := hcell 0 (by omega)
        obtain ⟨_, hcl', hat'⟩ := World.cells?_some hc'
        have h0 := hat' 0 (by omega)
        have hv0 : ds'[0]? = some (ds'[0]'(by omega)) := List.getElem?_eq_getElem (by omega)
        rw [hv0] at h0
        simpa [Addr.add] using World.cell?_spot h0
      obtain ⟨b, off, spot⟩ := a
      simp only at hspot
      subst hspot
      have h0 := hat 0 (by omega)
      have hv0 : cs'[0]? = some (cs'[0]'(by omega)) := List.getElem?_eq_getElem (by omega)
      rw [hv0] at h0
      have hlt0 := World.block_lt_of_cell? w _ h0
      rw [add_none, add_none] at hlt0
      obtain ⟨o, ho, hbk⟩ := op_of (b := b) (off := off + k * 3) (d := D k) (p := Pl k) (fun x hx => hr x (by
        rw [hd]
        simp only [DataW.weights, Try.underlying23, List.mem_cons, List.mem_append]
        refine .inr (.inl (weights_elem (d := D k) ?_ x hx))
        exact List.mem_map.2 ⟨k, List.mem_range.2 hk, rfl⟩)) ht' (fun j u hu => by
          have hj : j < 3 := by have := (List.getElem?_eq_some_iff.1 hu).1; omega
          have := hat j hj
          rw [add_none, add_none] at this
          exact this.trans hu)
      exact ⟨o, ⟨b, off, rfl, hlt0, ho⟩, hbk⟩
    obtain ⟨L, hL, hP⟩ := list_of n hone
    refine ⟨L, hL, fun k o ho => (hP k o ho).1, by simp only [reachBytes] at hlen; omega, ?_⟩
    have hb := bulk_list (fun o : Opv => o.bs.length + o.ks.length + 4) L D fun i x hx => (hP i x hx).2
    rw [hd, ← bulk_slice, ← hL]
    unfold opsBulk
    omega
theorem open_opsU {w : World} {d : DataW H} {v : Value} {p : List MemPlace} {b0 : Nat} {r : Reach} (hv : Value.okWide Try.prog w r b0 23 v)
    (hr : ∀ m ∈ d.weights Try.prog 23, m ≤ reachBytes) (h : DataW.Trod enc Try.prog w 0 (fun _ => true) true 23 v d p) (hlt : ∀ x ∈ p, x.block < w.heap.size) (hu : Rows.uptoBulk d ≤ 1048576) :
    ∃ (A : Option Addr) (n c : Nat), v = .slice A n c ∧ ∃ L : List Opv, L.length = n ∧ Ops w w.heap.size A L ∧ n ≤ 140737488351232 ∧ opsBulk L + 1 ≤ 1048576 := by
  obtain ⟨A, n, c, h1, L, h2, h3, h4, h5⟩ := open_ops hv hr h hlt
  exact ⟨A, n, c, h1, L, h2, h3, h4, by omega⟩
end

theorem open_boolsU {H : Type} {enc : TypeId × Value → H} {w : World} {d : DataW H} {v : Value} {p : List MemPlace} {b0 : Nat} {r : Reach} (hv : Value.okWide Try.prog w r b0 32 v)
    (hr : ∀ m ∈ d.weights Try.prog 32, m ≤ reachBytes) (h : DataW.Trod enc Try.prog w 0 (fun _ => true) true 32 v d p) (hlt : ∀ x ∈ p, x.block < w.heap.size) (hu : Rows.uptoBulk d ≤ 1048576) :
    ∃ (A : Option Addr) (n c : Nat), v = .slice A n c ∧ ∃ ks : List Bool, ks.length = n ∧ RL bvl w w.heap.size A ks ∧ n + 1 ≤ 1048576 := by
  obtain ⟨A, n, c, rfl⟩ := okWide_slice Try.underlying32 hv
  obtain ⟨fuel, hf⟩ := h
  obtain ⟨A', ks, c', e, h1, h2⟩ := open_bools (y := (d, p)) Try.underlying32 Try.underlying4 (by kernel_rfl) (by simpa [Value.cells] using hf)
  injection e with e1 e2 e3
  subst e1 e2 e3
  exact ⟨_, _, _, rfl, ks, rfl, h1, by simp only at h2; omega⟩
theorem bool_info : (Try.prog.info? 4).map (fun i => (i.zero, i.size, i.bytes)) = some (some (.bool false), 1, 1) := by kernel_rfl

/-- element k of a list of Ops -/
def opAt (L : List Opv) (k : Nat) : Opv := L.getD k ⟨0, [], []⟩
theorem opAt_get {L : List Opv} {k : Nat} (h : k < L.length) : L[k]? = some (opAt L k) := by
  unfold opAt; rw [List.getD_eq_getElem?_getD, List.getElem?_eq_getElem h]; rfl
theorem drop_opAt {L : List Opv} {k : Nat} (h : k < L.length) : L.drop k = opAt L k :: L.drop (k + 1) := by
  have := opAt_get h
  rw [List.getElem?_eq_getElem h] at this
  injection this with this
  rw [List.drop_eq_getElem_cons h, this]
theorem take_opAt {L : List Opv} {k : Nat} (h : k < L.length) : L.take (k + 1) = L.take k ++ [opAt L k] := by
  have := opAt_get h
  rw [List.getElem?_eq_getElem h] at this
  injection this with this
  rw [List.take_succ_eq_append_getElem h, this]
theorem opsBulk_len (L : List Opv) : L.length ≤ opsBulk L := by
  induction L with
  | nil => simp
  | cons o r ih => simp only [opsBulk, List.map_cons, List.sum_cons, List.length_cons] at ih ⊢; omega
theorem opsBulk_append (a b : List Opv) : opsBulk (a ++ b) = opsBulk a + opsBulk b := by simp [opsBulk]
theorem opsBulk_one (o : Opv) : opsBulk [o] = o.bs.length + o.ks.length + 4 := by simp [opsBulk]
theorem opsBulk_take (L : List Opv) (k : Nat) : opsBulk (L.take k) ≤ opsBulk L := by
  have := opsBulk_append (L.take k) (L.drop k)
  rw [List.take_append_drop] at this
  omega
theorem opsBulk_at {L : List Opv} {k : Nat} (h : k < L.length) : (opAt L k).bs.length + (opAt L k).ks.length + 4 ≤ opsBulk L := by
  have h1 := opsBulk_take L (k + 1)
  rw [take_opAt h, opsBulk_append, opsBulk_one] at h1
  omega

end Go.Proofs.Ytkpmnmgnfgfhaaa
