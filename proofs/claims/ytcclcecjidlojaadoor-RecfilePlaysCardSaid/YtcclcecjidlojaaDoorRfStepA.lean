/- recfile: how a script of calls with their data is opened. -/
import Derived.Test.YtcclcecjidlojaaDoorRfOps
import Derived.Test.YtcclcecjidlojaaDoorRfD7
import Derived.Test.YtcclcecjidlojaaDoorRfThereA
namespace Go.Proofs.YtcclcecjidlojaaDoor
open Go.ChangeShapes Go.WideShapes Go.ChangeAt Go.RowKit Go.Deep
set_option linter.unusedVariables false
/-- one call with its data -/
structure Opd where
  kind : Int
  id : Int
  bs : List Nat
instance : Inhabited Opd := ⟨⟨0, 0, []⟩⟩
def OpDt (w : World) (B b off : Nat) (o : Opd) : Prop :=
  ∃ A c, w.cell? ⟨b, off, none⟩ = some (.int .i64 o.kind) ∧ w.cell? ⟨b, off + 1, none⟩ = some (.int .i64 o.id) ∧ w.cell? ⟨b, off + 2, none⟩ = some (.slice A o.bs.length c) ∧ RB w B A o.bs ∧ o.bs.length ≤ c ∧ c ≤ 140737488351232 ∧
    (-9223372036854775808 ≤ o.kind ∧ o.kind ≤ 9223372036854775807) ∧ (-9223372036854775808 ≤ o.id ∧ o.id ≤ 9223372036854775807)
def OpsD (w : World) (B : Nat) (A : Option Addr) (L : List Opd) : Prop :=
  ∀ k o, L[k]? = some o → ∃ b off, A = some ⟨b, off, none⟩ ∧ b < B ∧ OpDt w B b (off + k * 3) o
theorem weights_elem9 {H : Type} {P : Program} {e : TypeId} {l : List (DataW H)} {d : DataW H} (h : d ∈ l) : ∀ n ∈ d.weights P e, n ∈ DataW.weightsAll P e l := by
  induction l with
  | nil => cases h
  | cons x r ih =>
    intro n hn
    simp only [DataW.weightsAll, List.mem_append]
    rcases List.mem_cons.1 h with rfl | h
    · exact .inl hn
    · exact .inr (ih h n hn)
section
variable {H : Type} {enc : TypeId × Value → H}
set_option maxRecDepth 100000 in
theorem opd_of {w : World} {n b off : Nat} {cs : List Value} {d : DataW H} {p : List MemPlace} (hr : ∀ m ∈ d.weights Tryd.prog 44, m ≤ reachBytes)
    (h : DataW.trod enc Tryd.prog w 0 (fun _ => true) true n 44 cs = some (d, p)) (hc : ∀ j u, cs[j]? = some u → w.cell? ⟨b, off + j, none⟩ = some u) :
    ∃ o : Opd, OpDt w w.heap.size b off o := by
  obtain ⟨xs, m, _, hx, hl, hlen, hf⟩ := DataW.trod_struct Tryd.underlying44 h
  rw [cells_op] at hl
  match cs, hl, xs, hlen with
  | [c0, c1, c2], _, [y0, y1, y2], _ =>
    have h0 : DataW.trod enc Tryd.prog w 0 (fun _ => true) true m 3 [c0] = some y0 := by
      have := hf 0 _ rfl
      simpa [cells_int] using this
    have h1 : DataW.trod enc Tryd.prog w 0 (fun _ => true) true m 3 [c1] = some y1 := by
      have := hf 1 _ rfl
      simpa [cells_int] using this
    have h3 : DataW.trod enc Tryd.prog w 0 (fun _ => true) true m 34 [c2] = some y2 := by
      have := hf 2 _ rfl
      simpa [cells_sl] using this
    obtain ⟨a, e0, _, wa⟩ := DataW.trod_int Tryd.underlying3 h0
    obtain ⟨b1, e1, _, wb⟩ := DataW.trod_int Tryd.underlying3 h1
    obtain ⟨A, l, c, hs⟩ := Joins.slice_form Tryd.underlying34 h3
    simp only [List.cons.injEq, and_true] at e0 e1 hs
    subst e0 e1 hs
    simp only [Prod.mk.injEq] at hx
    obtain ⟨hd, hp⟩ := hx
    have T3 : DataW.Trod enc Tryd.prog w 0 (fun _ => true) true 34 (.slice A l c) y2.1 y2.2 := ⟨m, h3⟩
    obtain ⟨bs, rfl, hb1, hb2, hb3⟩ := open_bytes (d := y2.1) (p := y2.2) Tryd.underlying34 Tryd.underlying5 (by kernel_rfl) (by kernel_rfl)
      (fun x hx => hr x (by
        rw [hd]
        simp only [DataW.weights, Tryd.underlying44]
        simp only [List.map_cons, DataW.weightsEach, List.mem_append]
        exact .inr (.inr (.inl hx)))) T3
    exact ⟨⟨a, b1, bs⟩, A, c, hc 0 _ rfl, hc 1 _ rfl, hc 2 _ rfl, hb1, hb2, hb3, bounds_i64 wa, bounds_i64 wb⟩
set_option maxRecDepth 100000 in
theorem open_scriptD {w : World} {d : DataW H} {v : Value} {p : List MemPlace} {b0 : Nat} {r : Reach} (hv : Value.okWide Tryd.prog w r b0 42 v)
    (hr : ∀ m ∈ d.weights Tryd.prog 42, m ≤ reachBytes) (h : DataW.Trod enc Tryd.prog w 0 (fun _ => true) true 42 v d p) (hlt : ∀ x ∈ p, x.block < w.heap.size) :
    ∃ (A : Option Addr) (L : List Opd) (c : Nat), v = .slice A L.length c ∧ OpsD w w.heap.size A L ∧ L.length * 40 ≤ 140737488351232 := by
  obtain ⟨A, n, c, rfl⟩ := okWide_slice Tryd.underlying42 hv
  obtain ⟨fuel, hf⟩ := h
  rcases open_slice Tryd.underlying42 hf with ⟨hcs, _⟩ | ⟨a, len, cap, m, n', D, Pl, hcs, _, hl, hm, hmm, hx, hcell⟩
  · simp [Value.cells] at hcs
    obtain ⟨rfl, rfl, rfl⟩ := hcs
    exact ⟨none, [], 0, rfl, fun k o ho => by simp at ho, by simp⟩
  · simp [Value.cells] at hcs
    obtain ⟨rfl, rfl, rfl⟩ := hcs
    simp only [if_true] at hmm
    simp only [Prod.mk.injEq] at hx
    obtain ⟨hd, hp⟩ := hx
    rw [cells_op] at hcell
    have hby : Tryd.prog.bytesOf 44 = 40 := by kernel_rfl
    have hlen : (n + (m - n)) * 40 ≤ reachBytes := hr _ (by
      rw [hd]
      simp only [DataW.weights, Tryd.underlying42, hby, List.length_map, List.length_range]
      exact List.mem_cons_self)
    have hone : ∀ k, k < n → ∃ o : Opd, (∃ b off, some a = some (⟨b, off, none⟩ : Addr) ∧ b < w.heap.size ∧ OpDt w w.heap.size b (off + k * 3) o) := by
      intro k hk
      obtain ⟨cs', hc, ht'⟩ := hcell k (by omega)
      obtain ⟨_, hcl, hat⟩ := World.cells?_some hc
      have hspot : a.spot = none := by
        obtain ⟨ds', hc', _⟩ := hcell 0 (by omega)
        obtain ⟨_, hcl', hat'⟩ := World.cells?_some hc'
        have h0 := hat' 0 (by omega)
        have hv0 : ds'[0]? = some (ds'[0]'(by omega)) := List.getElem?_eq_getElem (by omega)
        rw [hv0] at h0
        simpa [Addr.add] using World.cell?_spot h0
      obtain ⟨b, off, spot⟩ := a
      simp only at hspot
      subst hspot
      have h0 := hat 0 (by omega)
      have hv0 : cs'[0]? = some (cs'[0]'(by omega)) := List.getElem?_eq_getElem (by omega)
      rw [hv0] at h0
      have hlt0 := World.block_lt_of_cell? w _ h0
      rw [add_none, add_none] at hlt0
      obtain ⟨o, ho⟩ := opd_of (b := b) (off := off + k * 3) (d := D k) (p := Pl k) (fun x hx => hr x (by
        rw [hd]
        simp only [DataW.weights, Tryd.underlying42, List.mem_cons, List.mem_append]
        refine .inr (.inl (weights_elem9 (d := D k) ?_ x hx))
        exact List.mem_map.2 ⟨k, List.mem_range.2 hk, rfl⟩)) ht' (fun j u hu => by
          have hj : j < 3 := by have := (List.getElem?_eq_some_iff.1 hu).1; omega
          have := hat j hj
          rw [add_none, add_none] at this
          exact this.trans hu)
      exact ⟨o, ⟨b, off, rfl, hlt0, ho⟩⟩
    obtain ⟨L, hL, hP⟩ := list_of n hone
    exact ⟨some a, L, c, by rw [hL], fun k o ho => hP k o ho, by simp only [reachBytes] at hlen; omega⟩
end
end Go.Proofs.YtcclcecjidlojaaDoor

/- recfile: both files in step (pure, and as one object). -/
namespace Go.Proofs.YtcclcecjidlojaaDoor
open Go.RowKit
set_option linter.unusedVariables false
/-- both are as they should be -/
structure Bo (L : List Rc) (s lw : Nat) : Prop where
  rcs : Rcs L s
  rw_ : RW (recB L) s L.length lw
theorem Bo.live {L : List Rc} {s lw : Nat} (h : Bo L s lw) : ((liveN (recB L) s L.length : Nat) : Int) = ((liveL L L.length : Nat) : Int) := by rw [liveN_recB h.rcs _ (Nat.le_refl _)]
theorem Bo.nil (s : Nat) : Bo [] s 0 := ⟨fun r hr => (by cases hr), ⟨by simp [recB], by decide, Nat.le_refl _, fun j h => absurd h (Nat.not_lt_zero _)⟩⟩
theorem liveL_le' (L : List Rc) : liveL L L.length ≤ L.length := liveL_le _
theorem Bo.put {L : List Rc} {s lw id : Nat} {D : List Nat} (h : Bo L s lw) (hs : 0 < s) (hid : id < 65536) (hD : D.length + 1 = s) (hb : IsBytes D) :
    Bo (putL L s id D) s lw ∧ takenL (recB L) s L.length id ((liveL L L.length : Nat) : Int) = ((liveL (putL L s id D) (putL L s id D).length : Nat) : Int) ∧ layB (takenR (recB L) s L.length id) (id * s + 1) D = recB (putL L s id D) := by
  obtain ⟨h1, h2, h3, h4⟩ := put_rec h.rcs hs D hD hb (id := id)
  obtain ⟨t1, t2, t3⟩ := h.rw_.taken hs hid
  obtain ⟨u1, u2⟩ := t1.laid hs t3 hD
  rw [h1, ← h3] at u1
  refine ⟨⟨h2, u1⟩, ?_, h1⟩
  rw [← h.live, t2, ← u2, h1, ← h3, liveN_recB h2 _ (Nat.le_refl _)]
theorem Bo.alloc {L : List Rc} {s lw F : Nat} (h : Bo L s lw) (hs : 0 < s) (h1 : lw ≤ F) (hF : F ≤ L.length) (hall : ∀ j : Nat, lw ≤ j → j < F → usedB (recB L) s L.length (j : Int) = true) (hno : usedB (recB L) s L.length (F : Int) = false) (hlive : liveL L L.length ≠ 65536) :
    Bo (putL L s F (List.replicate (s - 1) 0)) s (F + 1) ∧ ((liveL L L.length : Nat) : Int) + 1 = ((liveL (putL L s F (List.replicate (s - 1) 0)) (putL L s F (List.replicate (s - 1) 0)).length : Nat) : Int) ∧
      (growR (recB L) (F * s + s)).set (F * s) 1 = recB (putL L s F (List.replicate (s - 1) 0)) ∧ (∀ j : Nat, j < F → usedL L (j : Int) = true) ∧ usedL L (F : Int) = false ∧ F < 65536 := by
  have hu : usedL L (F : Int) = false := by rw [← usedB_recB h.rcs]; exact hno
  have hlv : liveN (recB L) s L.length = liveL L L.length := liveN_recB h.rcs _ (Nat.le_refl _)
  obtain ⟨r1, r2⟩ := h.rw_.take hs hF h1 hall hno (by rw [hlv]; exact hlive)
  have hal := alloc_rec h.rcs hs hu
  obtain ⟨p1, p2, p3, p4⟩ := put_rec h.rcs hs (List.replicate (s - 1) 0) (by simp; omega) (zeros_bytes _) (id := F)
  have hlen : (putL L s F (List.replicate (s - 1) 0)).length = max L.length (F + 1) := by
    unfold putL
    rw [List.length_set, grownL_len]
  rw [hal, ← hlen] at r1 r2
  rw [hlv] at r2
  have hfew := r1.few
  refine ⟨⟨p2, r1⟩, by rw [r2, liveN_recB p2 _ (Nat.le_refl _)], hal, fun j hj => ?_, hu, by omega⟩
  rcases Nat.lt_or_ge j lw with h2 | h2
  · have h3 := h.rw_.below j h2
    have hlow := h.rw_.low
    rw [recB_flag h.rcs (by omega)] at h3
    rw [usedL_at (by omega)]
    cases hx : (nthD L j).used
    · rw [hx] at h3
      exact absurd h3 (by decide)
    · rfl
  · rw [← usedB_recB h.rcs]
    exact hall j h2 hj
theorem Bo.full {L : List Rc} {s lw : Nat} (h : Bo L s lw) (hlive : liveL L L.length = 65536) : ∀ j : Nat, j < 65536 → usedL L (j : Int) = true := by
  have hfew := h.rw_.few
  have hle := liveL_le' L
  have hlen : L.length = 65536 := by omega
  have hall : ∀ r ∈ L, r.used = true := by
    unfold liveL at hlive
    rw [List.take_length] at hlive
    exact List.countP_eq_length.1 (by rw [hlive, hlen])
  intro j hj
  rw [usedL_at (by omega), nthD_lt (by omega)]
  exact hall _ (List.getElem_mem _)
theorem Bo.free {L : List Rc} {s lw id : Nat} (h : Bo L s lw) (hs : 0 < s) (hu : usedL L (id : Int) = true) :
    Bo (freeL L s id) s (min lw id) ∧ ((liveL L L.length : Nat) : Int) - 1 = ((liveL (freeL L s id) (freeL L s id).length : Nat) : Int) ∧ layB (recB L) (id * s) (List.replicate s 0) = recB (freeL L s id) := by
  obtain ⟨k, hk, hkl, hku⟩ := usedL_nat hu
  obtain rfl : id = k := by omega
  have hb := recB_flag h.rcs hkl
  rw [hku] at hb
  obtain ⟨r1, r2⟩ := h.rw_.free hs hkl hb
  have hf := free_rec h.rcs hs hkl
  have hlen : (freeL L s id).length = L.length := by unfold freeL; rw [List.length_set]
  have hok : Rcs (freeL L s id) s := set_ok h.rcs id (offR_ok hs)
  rw [hf, ← hlen] at r1 r2
  rw [hlen, h.live] at r2
  rw [← hlen] at r2
  exact ⟨⟨hok, r1⟩, by rw [← liveN_recB hok _ (Nat.le_refl _), ← r2, hlen], hf⟩
/-- what the script puts -/
def putD (s : Nat) (D : List Nat) : List Nat := if D.length = 1 then List.replicate (s - 1) (nth D 0) else D
end Go.Proofs.YtcclcecjidlojaaDoor
