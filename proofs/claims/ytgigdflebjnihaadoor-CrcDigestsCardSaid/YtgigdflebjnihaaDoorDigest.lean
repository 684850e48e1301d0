/- Contracts of the Digest's methods; and how a slice of slices of bytes is opened. -/
import Derived.Test.YtgigdflebjnihaaDoorCrcTwo
import Derived.Test.YtgigdflebjnihaaDoorOpen
import Derived.Deep.Slices
import Derived.Lib.SmallJoins
namespace Go.Proofs.YtgigdflebjnihaaDoor
open Go.ChangeShapes Go.WideShapes Go.ChangeAt Go.RowKit Go.Deep
set_option linter.unusedVariables false

/-- A Digest at block g. -/
def Dg (w : World) (g : Nat) (s : Nat) (n : Int) : Prop := Blk w g 48 #[.int .u32 (s : Int), .int .i64 n]

set_option maxHeartbeats 400000 in
theorem New_any (w : World) : Calls Tryd.prog 18 #[] w fun e w' => e = .returned (.pointer (some ⟨w.heap.size, 0, none⟩)) ∧ w.alloc (.cells #[.int .u32 0, .int .i64 0] 48) = w' := by
  go_enter Tryd.func18, Tryd.ntmps18
  go_wp2
  go_ret
  exact ⟨rfl, rfl⟩

set_option maxHeartbeats 400000 in
theorem DSum_any (g s : Nat) (n : Int) (w : World) (h : Dg w g s n) : Calls Tryd.prog 19 #[.pointer (some ⟨g, 0, none⟩)] w fun e w' => e = .returned (.int .u32 s) ∧ w = w' := by
  have hc : w.cell? ⟨g, 0, none⟩ = some (.int .u32 (s : Int)) := by rw [h.cell 0]; rfl
  clear h
  go_enter Tryd.func19, Tryd.ntmps19
  go_wp2
  go_ret
  exact ⟨rfl, rfl⟩

set_option maxHeartbeats 400000 in
theorem DCount_any (g s : Nat) (n : Int) (w : World) (h : Dg w g s n) : Calls Tryd.prog 20 #[.pointer (some ⟨g, 0, none⟩)] w fun e w' => e = .returned (.int .i64 n) ∧ w = w' := by
  have hc : w.cell? ⟨g, 1, none⟩ = some (.int .i64 n) := by rw [h.cell 1]; rfl
  clear h
  go_enter Tryd.func20, Tryd.ntmps20
  go_wp2
  go_ret
  exact ⟨rfl, rfl⟩

/-- what Write leaves -/
def Fed (g s : Nat) (n : Int) (bs : List Nat) (w : World) (e : Ending) (w' : World) : Prop :=
  e = .returned (.tuple #[]) ∧ Dg w' g (crcFrom s bs) (IntKind.i64.wrap (n + (bs.length : Int))) ∧ Only (fun k => k = g) w w'

set_option maxHeartbeats 400000 in
theorem DWrite_any (g s : Nat) (n : Int) (A : Option Addr) (cap B : Nat) (bs : List Nat) (w : World) (h : Dg w g s n) (hT : TabW w) (hs : s < 4294967296) (hr : RB w B A bs) (hl : bs.length ≤ maxLen) :
    Calls Tryd.prog 21 #[.pointer (some ⟨g, 0, none⟩), .slice A bs.length cap] w (Fed g s n bs w) := by
  have hc0 : w.cell? ⟨g, 0, none⟩ = some (.int .u32 (s : Int)) := by rw [h.cell 0]; rfl
  have hc1 : w.cell? ⟨g, 1, none⟩ = some (.int .i64 n) := by rw [h.cell 1]; rfl
  have hf0 := h.frozen 0
  have hf1 := h.frozen 1
  have HU := Lib.hid (Update_any s A cap B bs w hT hs hr hl)
  have H := Lib.hid h
  obtain ⟨m, hm⟩ : ∃ m, m = IntKind.i64.wrap (n + (bs.length : Int)) := ⟨_, rfl⟩
  have Hm := Lib.hid hm
  have hm2 : IntKind.i64.wrap (n + (bs.length : Int)) = m := hm.symm
  obtain ⟨c, hc⟩ : ∃ c, c = crcFrom s bs := ⟨_, rfl⟩
  rw [← hc] at HU
  have Hc := Lib.hid hc
  have H1 : Hid (Dg ((w.setCell ⟨g, 0, none⟩ (.int .u32 (c : Int))).setCell ⟨g, 1, none⟩ (.int .i64 m)) g c m) := Lib.hid (by
    have := (h.set_ 0 (.int .u32 (c : Int))).set_ 1 (.int .i64 m)
    simpa [Dg] using this)
  have H2 : Hid (Only (fun k => k = g) w ((w.setCell ⟨g, 0, none⟩ (.int .u32 (c : Int))).setCell ⟨g, 1, none⟩ (.int .i64 m))) := Lib.hid
    (((Only.refl (fun k => k = g) w).setCell (p := ⟨g, 0, none⟩) (.inl rfl) _).setCell (p := ⟨g, 1, none⟩) (.inl rfl) _)
  clear h hT hm hc
  go_enter Tryd.func21, Tryd.ntmps21
  go_wp2_with (go_at_call 14; refine (HU.out).mono ?_; rintro e w' ⟨rfl, rfl⟩)
  go_end0
  exact ⟨rfl, by rw [← Hc.out, ← Hm.out]; exact H1.out, H2.out⟩

/-! ### How the pieces come in -/
theorem list_of {α : Type} {P : Nat → α → Prop} (n : Nat) (h : ∀ i, i < n → ∃ x, P i x) : ∃ L : List α, L.length = n ∧ ∀ i x, L[i]? = some x → P i x := by
  induction n with
  | zero => exact ⟨[], rfl, fun i x hx => by simp at hx⟩
  | succ n ih =>
    obtain ⟨L, hl, hL⟩ := ih fun i hi => h i (by omega)
    obtain ⟨x, hx⟩ := h n (by omega)
    refine ⟨L ++ [x], by simp [hl], fun i y hy => ?_⟩
    rcases Nat.lt_or_ge i n with hi | hi
    · rw [List.getElem?_append_left (by omega)] at hy; exact hL i y hy
    · rw [List.getElem?_append_right (by omega)] at hy
      have : i - L.length = 0 := by
        have := (List.getElem?_eq_some_iff.1 hy).1
        simpa using this
      rw [this] at hy
      simp at hy
      subst hy
      obtain rfl : i = n := by omega
      exact hx

/-- A slice of n slices of bytes at A. -/
def Pieces (w : World) (B : Nat) (A : Option Addr) (n : Nat) : Prop :=
  ∀ k, k < n → ∃ b off A' c bs, A = some ⟨b, off, none⟩ ∧ b < B ∧ w.cell? ⟨b, off + k, none⟩ = some (.slice A' (List.length bs) c) ∧ RB w B A' bs ∧ bs.length ≤ c ∧ c ≤ 140737488351232
theorem Pieces.below {w w' : World} {B : Nat} {A : Option Addr} {n : Nat} (h : Pieces w B A n) (hb : Below B w w') : Pieces w' B A n := by
  intro k hk
  obtain ⟨b, off, A', c, bs, h1, h2, h3, h4, h5⟩ := h k hk
  exact ⟨b, off, A', c, bs, h1, h2, (hb.cell (p := ⟨b, off + k, none⟩) h2).trans h3, h4.below hb, h5⟩

theorem weights_elem {H : Type} {P : Program} {e : TypeId} {l : List (DataW H)} {d : DataW H} (h : d ∈ l) : ∀ n ∈ d.weights P e, n ∈ DataW.weightsAll P e l := by
  induction l with
  | nil => cases h
  | cons x r ih =>
    intro n hn
    simp only [DataW.weightsAll, List.mem_append]
    rcases List.mem_cons.1 h with rfl | h
    · exact .inl hn
    · exact .inr (ih h n hn)

section
variable {H : Type} {enc : TypeId × Value → H}
theorem open_pieces {w : World} {d : DataW H} {v : Value} {p : List MemPlace} {b0 : Nat} {r : Reach} (hv : Value.okWide Tryd.prog w r b0 33 v)
    (hr : ∀ m ∈ d.weights Tryd.prog 33, m ≤ reachBytes) (h : DataW.Trod enc Tryd.prog w 0 (fun _ => true) true 33 v d p) (hlt : ∀ x ∈ p, x.block < w.heap.size) :
    ∃ (A : Option Addr) (n c : Nat), v = .slice A n c ∧ (Pieces w w.heap.size A n ∧ n ≤ 140737488351232) := by
  obtain ⟨A, n, c, rfl⟩ := okWide_slice Tryd.underlying33 hv
  refine ⟨A, n, c, rfl, ?_⟩
  obtain ⟨fuel, hf⟩ := h
  rcases open_slice1 Tryd.underlying33 (by kernel_rfl) hf with ⟨hcs, _⟩ | ⟨a, len, cap, m, n', V, D, Pl, hcs, _, hl, hm, hmm, hx, hcell⟩
  · simp [Value.cells] at hcs
    obtain ⟨rfl, rfl, rfl⟩ := hcs
    exact ⟨fun k hk => absurd hk (by omega), by omega⟩
  · simp [Value.cells] at hcs
    obtain ⟨rfl, rfl, rfl⟩ := hcs
    simp only [if_true] at hmm
    simp only [Prod.mk.injEq] at hx
    obtain ⟨hd, hp⟩ := hx
    have hby : Tryd.prog.bytesOf 22 = 24 := by kernel_rfl
    have hlen : (n + (m - n)) * 24 ≤ reachBytes := hr _ (by
      rw [hd]
      simp only [DataW.weights, Tryd.underlying33, hby, List.length_map, List.length_range]
      exact List.mem_cons_self)
    refine ⟨fun k hk => ?_, by simp only [reachBytes] at hlen; omega⟩
    obtain ⟨hc, ht⟩ := hcell k (by omega)
    obtain ⟨A', l', c', hs⟩ := Joins.slice_form Tryd.underlying22 ht
    simp only [List.cons.injEq, and_true] at hs
    have h0 := (hcell 0 (by omega)).1
    obtain ⟨b, off, spot⟩ := a
    have hspot : spot = none := by simpa [Addr.add] using World.cell?_spot h0
    subst hspot
    rw [add_none, hs] at hc
    obtain ⟨bs, hl', hb1, hb2, hb3⟩ := open_bytes (d := D k) (p := Pl k) Tryd.underlying22 Tryd.underlying5 (by kernel_rfl) (by kernel_rfl)
      (fun x hx => hr x (by
        rw [hd]
        simp only [DataW.weights, Tryd.underlying33, List.mem_cons, List.mem_append]
        refine .inr (.inl (weights_elem (d := D k) ?_ x hx))
        exact List.mem_map.2 ⟨k, List.mem_range.2 hk, rfl⟩)) ⟨n', by rw [hs] at ht; exact ht⟩
    subst hl'
    exact ⟨b, off, A', c', bs, rfl, World.block_lt_of_cell? w _ hc, hc, hb1, hb2, hb3⟩
end

end Go.Proofs.YtgigdflebjnihaaDoor
