/- recfile: the law's copy; how a list of ints that came in is opened. -/
import Derived.Test.YtcclcecjidlojaaDoorRfPure
import Derived.Test.YtcclcecjidlojaaDoorOpen
import Derived.SliceStrings
import Derived.Deep.Slices
namespace Go.Proofs.YtcclcecjidlojaaDoor
open Go.ChangeShapes Go.WideShapes Go.ChangeAt Go.RowKit Go.Deep
set_option linter.unusedVariables false

section
variable {H : Type} {enc : TypeId × Value → H} {P : Program}
theorem open_intsR {w : World} {t e : TypeId} {fuel : Nat} {v : Value} {y : DataW H × List MemPlace} (ht : P.underlying t = some (.slice e)) (he : P.underlying e = some (.int .i64)) (hc : P.cellsOf e = 1) (hby : P.bytesOf e = 8)
    (hr : ∀ m ∈ y.1.weights P t, m ≤ reachBytes) (h : DataW.trod enc P w 0 (fun _ => true) true fuel t [v] = some y) :
    ∃ (A : Option Addr) (ns : List Int) (c : Nat), v = .slice A ns.length c ∧ RL ivl w w.heap.size A ns ∧ (∀ x ∈ ns, -9223372036854775808 ≤ x ∧ x ≤ 9223372036854775807) ∧ ns.length ≤ c ∧ c * 8 ≤ 140737488351232 := by
  rcases open_ints ht he hc h with ⟨hcs, _⟩ | ⟨x, l, c, zs, hcs, _, hl, hm, hz, hx, hcell, hwz⟩
  · simp only [List.cons.injEq, and_true] at hcs
    subst hcs
    exact ⟨none, [], 0, rfl, RL.empty _ _ _ _, (fun x hx => by cases hx), Nat.le_refl _, by omega⟩
  · simp only [List.cons.injEq, and_true] at hcs
    subst hcs
    simp only [if_true] at hz
    have hcap : c * 8 ≤ 140737488351232 := by
      have := hr (((lits (H := H) .i64 (zs.take l)).length + (lits (H := H) .i64 (zs.drop l)).length) * 8) (by rw [hx]; simp [DataW.weights, ht, hby])
      rw [lits_length, lits_length] at this
      simp only [List.length_take, List.length_drop, reachBytes] at this
      omega
    have hn : (zs.take l).length = l := by rw [List.length_take]; omega
    refine ⟨some x, zs.take l, c, by rw [hn], ⟨⟨by simp, fun h0 => ?_⟩, fun z _ => ivl_ok z⟩, fun z hz' => bounds_i64 (hwz z (List.mem_of_mem_take hz')), by rw [hn]; omega, hcap⟩
    rw [hn] at h0
    refine ⟨x, rfl, ?_, fun j u hj => ?_⟩
    · have := cell_lt (hcell 0 (by omega))
      rwa [block_of_add] at this
    · have hjn : j < l := by
        have := (List.getElem?_eq_some_iff.1 hj).1
        rw [List.length_map, hn] at this; exact this
      rw [hcell j (by omega)]
      have hj' : j < zs.length := by omega
      simp only [List.getElem?_map, List.getElem?_take_of_lt hjn, List.getElem?_eq_getElem hj', Option.map_some, Option.some.injEq] at hj
      rw [← hj]
      simp [List.getD_eq_getElem?_getD, List.getElem?_eq_getElem hj']

end
section
variable {H : Type} {enc : TypeId × Value → H}
theorem rf_intC : Tryd.prog.cellsOf 3 = 1 := by kernel_rfl
theorem rf_intB : Tryd.prog.bytesOf 3 = 8 := by kernel_rfl
set_option maxRecDepth 100000 in
theorem open_ids {w : World} {d : DataW H} {v : Value} {p : List MemPlace} {b0 : Nat} {r : Reach} (hv : Value.okWide Tryd.prog w r b0 53 v)
    (hr : ∀ m ∈ d.weights Tryd.prog 53, m ≤ reachBytes) (h : DataW.Trod enc Tryd.prog w 0 (fun _ => true) true 53 v d p) (hlt : ∀ x ∈ p, x.block < w.heap.size) :
    ∃ (A : Option Addr) (L : List Int) (c : Nat), v = .slice A L.length c ∧ RL ivl w w.heap.size A L ∧ L.length * 8 ≤ 140737488351232 := by
  obtain ⟨A0, n0, c0, rfl⟩ := okWide_slice Tryd.underlying53 hv
  obtain ⟨fuel, hfu⟩ := h
  have hfu : DataW.trod enc Tryd.prog w 0 (fun _ => true) true fuel 53 [Value.slice A0 n0 c0] = some (d, p) := by simpa [Value.cells] using hfu
  obtain ⟨A, L, c, e, hrl, -, hlc, hcb⟩ := open_intsR Tryd.underlying53 Tryd.underlying3 rf_intC rf_intB hr hfu
  exact ⟨A, L, c, e, hrl, by omega⟩
end
set_option maxRecDepth 100000 in
set_option maxHeartbeats 400000 in
/-- the law's copy of bytes -/
theorem lawClone_any (A : Option Addr) (cap B : Nat) (bs : List Nat) (w : World) (h : RB w B A bs) (hB : B ≤ w.heap.size) (hl : bs.length ≤ 140737488355328) :
    Calls Tryd.prog 18 #[.slice A bs.length cap] w (NewB bs w) := by
  obtain ⟨i0, hi, hz0, hz1, hz2⟩ := info_parts u8_info
  go_enter Tryd.func18, Tryd.ntmps18
  go_wp2_with (at_builtin; refine wpList_append_bytes _ rfl _ _ 34 rfl w.heap.size 5 i0 Tryd.underlying34 hi hz0 hz1 hz2 (.slice (some ⟨w.heap.size, 0, none⟩) 0 0) [] (by rfl) ⟨IsBytes.nil, World.ownsRow_lit w #[] 0 (Nat.le_refl _) (Nat.zero_le _) rfl⟩ A cap B bs bs.length rfl (by rfl) (h.alloc hB _) (by simpa using hl) (by simp) ?_; intro v1 w1 hown1 hg1 hat1)
  have hb1 : Below w.heap.size w w1 := below_own (((Below.refl _ _).alloc (Nat.le_refl _) _)) (World.ownsRow_lit (base := w.heap.size) (size := 1) w #[] 0 (Nat.le_refl _) (Nat.zero_le _) rfl) (Nat.le_refl _) hg1 (by simp)
  go_ret
  exact ⟨_, rfl, by simpa using hown1, hb1⟩
/-- bytes that are no file -/
theorem lowOpen_no {S0 : Fp} {l : List Ass} {w0 w : World} [Stable (Sep l)] {A : Option Addr} {cap : Nat} {bs : List Nat} (hg : ¬ (16 ≤ bs.length ∧ hdErr bs = 0 ∧ openErr bs = 0)) (h : St S0 l w0 w) (hr : RB w w.heap.size A bs) (hT : TabW w) (hl2 : bs.length ≤ 140737488355328) (hcap : bs.length ≤ cap) :
    Calls Tryd.prog 19 #[.slice A bs.length cap] w fun e w' => ∃ ee, e = .returned (.tuple #[.pointer none, .int .i64 ee]) ∧ St S0 l w0 w' := by
  by_cases h1 : bs.length < 16 ∨ hdErr bs ≠ 0
  · refine (rfOpen_head h hr (Nat.le_refl _) hT hl2 hcap h1).mono ?_
    rintro e w' ⟨rfl, _, h2⟩
    exact ⟨_, rfl, h2⟩
  · have h2 : 16 ≤ bs.length := by omega
    have h3 : hdErr bs = 0 := Decidable.byContradiction fun h => h1 (.inr h)
    refine (rfOpen_body h hr (Nat.le_refl _) hT h2 hl2 hcap h3).mono ?_
    rintro e w' (⟨_, rfl, h4⟩ | ⟨h4, _⟩)
    · exact ⟨_, rfl, h4⟩
    · exact absurd ⟨h2, h3, h4⟩ hg
theorem lowOpen_yes {S0 : Fp} {l : List Ass} {w0 w : World} [Stable (Sep l)] {A : Option Addr} {cap : Nat} {bs : List Nat} (hg : 16 ≤ bs.length ∧ hdErr bs = 0 ∧ openErr bs = 0) (h : St S0 l w0 w) (hr : RB w w.heap.size A bs) (hT : TabW w) (hl2 : bs.length ≤ 140737488355328) (hcap : bs.length ≤ cap) :
    Calls Tryd.prog 19 #[.slice A bs.length cap] w fun e w' => ∃ g, e = .returned (.tuple #[.pointer (some ⟨g, 0, none⟩), .int .i64 0]) ∧ St S0 (RfA g (hd bs 4 1 : Nat) (hd bs 5 1 : Nat) (hd bs 6 2 : Nat) (bs.drop 16) (liveN (bs.drop 16) (hd bs 6 2) (hd bs 8 4) : Nat) ((0 : Nat) : Int) :: l) w0 w' := by
  refine (rfOpen_body h hr (Nat.le_refl _) hT hg.1 hl2 hcap hg.2.1).mono ?_
  rintro e w' (⟨h4, _⟩ | ⟨_, h4⟩)
  · exact absurd hg.2.2 h4
  · exact h4
end Go.Proofs.YtcclcecjidlojaaDoor
