/- slots: slices.SortFunc of keys with their values. -/
import Derived.Test.YtgpahglmhnnobaaGreatDoorSlOver
import Derived.Test.YtgpahglmhnnobaaGreatDoorShelf
import Derived.Shelf.SlSortCmp.NoneTotal
namespace Go.Proofs.YtgpahglmhnnobaaGreatDoor
open Go.RowKit Go.Sort
set_option linter.unusedVariables false
set_option linter.unusedSimpArgs false

instance : Inhabited (Kv × Pl) := ⟨(⟨0, vnone⟩, ⟨none, 0, none, 0⟩)⟩
theorem kv_isAgg (w : World) : (isAgg 44).run Tryz.prog w = .ok true w := by
  simp [isAgg, Sem.run_bind, run_underlying Tryz.underlying44, Result.andThen]
theorem kv_sizeOf (w : World) : (Go.sizeOf 44).run Tryz.prog w = .ok 6 w := by
  obtain ⟨i0, zz, hi, hz, hs, hby, hzs⟩ := row_info kv_info
  simp [Go.sizeOf, typeInfo, Sem.run_bind, Result.andThen, hi, hs, go_sem]
/-- what the closure compares -/
def cmpK (x y : Kv × Pl) : Int := Lib.compareInt x.1.k y.1.k
theorem ltK (x y : Kv × Pl) : ltOf cmpK x y = decide (x.1.k < y.1.k) := by
  unfold ltOf cmpK Lib.compareInt
  by_cases h1 : x.1.k < y.1.k
  · simp [h1]
  · by_cases h2 : y.1.k < x.1.k <;> simp [h1, h2]
theorem swoK : Sort.SWO (ltOf cmpK) where
  irrefl x := by rw [ltK]; simp
  trans x y z h1 h2 := by rw [ltK] at *; simp at *; omega
  ntrans x y z h1 h2 := by rw [ltK] at *; simp at *; omega
set_option maxHeartbeats 1000000 in
theorem kvClosure (x y : Kv × Pl) (W : World) : Calls Tryz.prog 30 #[.agg (pcs x).toArray, .agg (pcs y).toArray] W fun e w' => e = .returned (.int .i64 (cmpK x y)) ∧ ∃ q os', w' = grow (W.drewN q) os' := by
  have hcon := fun W' => AnyG.cmp_Compare_int Tryz.cmpInt x.1.k y.1.k W'
  change ∀ W', Calls Tryz.prog 31 _ _ _ at hcon
  unfold cmpK
  generalize Lib.compareInt x.1.k y.1.k = r at hcon ⊢
  have HC := Lib.hid hcon
  clear hcon
  unfold pcs kcells
  go_enter Tryz.func30, Tryz.ntmps30
  go_wp2_with (go_at_call 31; refine (HC.out _).mono ?_; rintro e w' ⟨rfl, rfl⟩)
  go_ret
  exact ⟨rfl, 0, _, by rw [alloc_eq_grow, alloc_eq_grow, grow_grow]; rfl⟩
theorem kvCmp (blk off size : Nat) (w : World) : CmpLays Tryz.prog 30 #[] pcs 6 cmpK blk off size w := fun _ _ _ _ x y => kvClosure x y _
theorem Sep.perm {l l' : List Ass} (hp : l.Perm l') : ∀ {w : World} {F : Fp}, Sep l w F → Sep l' w F := by
  induction hp with
  | nil => exact fun h => h
  | cons x _ ih => exact fun h => Sep.rest (fun F h => ih h) h
  | swap x y l => exact fun h => h.swap
  | trans _ _ ih1 ih2 => exact fun h => ih2 (ih1 h)
/-- in ascending order of keys -/
def AscK (X : List (Kv × Pl)) : Prop := X.Pairwise fun a b => a.1.k ≤ b.1.k
theorem flat_get {X : List (Kv × Pl)} {j : Nat} (h : j < X.length * 6) : (X.flatMap pcs)[j]? = some ((flatK pcs 6 X.toArray)[j]!) := by
  have hk : j / 6 < X.length := by omega
  have hm : j % 6 < 6 := by omega
  have e := flatMap_at pcs_len X (j / 6) X[j / 6] (j % 6) (List.getElem?_eq_getElem hk) hm
  rw [show j / 6 * 6 + j % 6 = j by omega] at e
  rw [e, get_flatK pcs 6 X.toArray j (by simpa using h)]
  have h1 : (X.toArray)[j / 6]! = X[j / 6] := by simp [hk]
  rw [h1]
  have h2 : j % 6 < (pcs X[j / 6]).length := by rw [pcs_len]; exact hm
  rw [List.getElem?_eq_getElem h2]
  simp [h2]
theorem holds_row {w : World} {g cap : Nat} {X : List (Kv × Pl)} (h : w.ownsRow 0 44 6 (.slice (some ⟨g, 0, none⟩) X.length cap) X.length (X.flatMap pcs)) :
    HoldsK pcs 6 w g 0 X.toArray ∧ g < w.heap.size ∧ ∃ cur, w.heap[g]? = some (.cells cur 44 (0, 0)) ∧ X.length ≤ cap ∧ cap ≤ maxLen ∧ cur.size = cap * 6 := by
  rcases h.2 with ⟨hv, _⟩ | ⟨g', cap', cur, hv, _, hg, h1, h2, h3, h4⟩
  · cases hv
  · simp only [Value.slice.injEq, Option.some.injEq, Addr.mk.injEq, and_true, true_and] at hv
    obtain ⟨rfl, rfl⟩ := hv
    refine ⟨fun j hj => ?_, (Array.getElem?_eq_some_iff.1 hg).1, cur, hg, h1, h2, h3⟩
    rw [size_flatK] at hj
    simp only [List.size_toArray] at hj
    have e := flat_get hj
    rw [← h4, List.getElem?_take_of_lt hj, Array.getElem?_toList] at e
    rw [Nat.zero_add]
    constructor
    · rw [cell_of_row w g j cur _ (0, 0) hg, e]
      rfl
    · simp [World.frozen?, hg]
theorem sort_heap {w : World} {g n : Nat} {d : Array (Kv × Pl)} {os : Array Obj} : (sortWorldK pcs 6 w g 0 n d os).heap = (w.heap.modify g (Go.Sort.onCells (Go.Sort.putCells id 0 (flatK pcs 6 d)))) ++ os := rfl
theorem put_take {cur F : Array Value} {m : Nat} (hF : F.size = m) (hm : m ≤ cur.size) : (Go.Sort.putCells id 0 F cur).toList.take m = F.toList := by
  apply List.ext_getElem?
  intro j
  by_cases hj : j < m
  · rw [List.getElem?_take_of_lt hj, Array.getElem?_toList, Array.getElem?_toList]
    unfold Go.Sort.putCells
    rw [Array.getElem?_mapIdx, Array.getElem?_eq_getElem (by omega), Array.getElem?_eq_getElem (by omega)]
    simp [hF, hj]
  · rw [List.getElem?_eq_none (by rw [List.length_take]; omega), List.getElem?_eq_none (by rw [Array.length_toList]; omega)]
theorem flatK_list (X : List (Kv × Pl)) : (flatK pcs 6 X.toArray).toList = X.flatMap pcs := by
  apply List.ext_getElem?
  intro j
  have hl : (X.flatMap pcs).length = X.length * 6 := flatMap_len' pcs_len X
  by_cases hj : j < X.length * 6
  · rw [flat_get hj, Array.getElem?_toList, Array.getElem?_eq_getElem (by rw [size_flatK]; simpa using hj)]
    simp [hj]
  · rw [List.getElem?_eq_none (by rw [Array.length_toList, size_flatK]; simp; omega), List.getElem?_eq_none (by omega)]
set_option maxHeartbeats 1000000 in
theorem Sort_any {l : List Ass} [Stable (Sep l)] {w0 w : World} {v : Value} {X : List (Kv × Pl)} (h : St Zf (KxA v X :: l) w0 w) (hl : X.length ≤ 1000) :
    Calls Tryz.prog 29 #[v, .func (.func 30) #[] #[]] w fun e w' => e = .returned (.tuple #[]) ∧ ∃ X', X'.Perm X ∧ AscK X' ∧ St Zf (KxA v X' :: l) w0 w' := by
  have hrow := h.kxRow
  rcases hrow.2 with ⟨rfl, h0⟩ | ⟨g, cap, _, rfl, _⟩
  · have hX : X = [] := List.length_eq_zero_iff.1 h0
    subst hX
    have := AnyF.slices_SortFunc_none Tryz.sortKv none 0 (.func (.func 30) #[] #[]) w
    refine this.mono ?_
    rintro e w' ⟨rfl, rfl⟩
    exact ⟨rfl, [], List.Perm.refl _, List.Pairwise.nil, h⟩
  · obtain ⟨hH, hg, cur, hcur, hc1, hc2, hc3⟩ := holds_row hrow
    have eg : ∀ args w, (callFunc 30 args).run Tryz.prog w = .ok (.enter 30 args) w := enters_of Tryz.func30 (by kernel_rfl) rfl
    have hcon := AnyQ.slices_SortFunc Tryz.sortKv 6 kv_isAgg kv_sizeOf pcs pcs_len pcs_one cmpK swoK 30 #[] g 0 cap X.toArray w eg (kvCmp g 0 _ w) hH hg (by simp; omega)
    change Calls Tryz.prog 29 #[.slice (some ⟨g, 0, none⟩) X.toArray.size cap, .func (.func 30) #[] #[]] w _ at hcon
    rw [List.size_toArray] at hcon
    refine hcon.mono ?_
    rintro e w' ⟨rfl, d', n, os, hp, hs, rfl⟩
    obtain ⟨hp1, -, hp3⟩ := hp
    obtain ⟨X', rfl⟩ : ∃ X', d' = List.toArray X' := ⟨d'.toList, by simp⟩
    simp only [List.size_toArray] at hp1 hp3 hs
    have hperm : X'.Perm X := by
      have e1 : (X'.toArray.extract 0 X.length).toList = X' := by simp [← hp1]
      have e2 : (X.toArray.extract 0 X.length).toList = X := by simp
      rwa [e1, e2] at hp3
    refine ⟨rfl, X', hperm, ?_, ?_⟩
    · rw [AscK, List.pairwise_iff_getElem]
      intro i j hi hj hij
      have := hs i j (Nat.zero_le _) hij (by omega)
      rw [ltK] at this
      have e1 : X'.toArray[j]! = X'[j] := by simp [hj]
      have e2 : X'.toArray[i]! = X'[i] := by simp [hi]
      rw [e1, e2] at this
      simpa using this
    · have hf : St Zf (RwA 44 6 (.slice (some ⟨g, 0, none⟩) X.length cap) X.length (X.flatMap pcs) :: Sep (X.map ppsA) :: l) w0 w := St.flat (l' := [_, _]) h
      obtain ⟨F, ⟨_, rfl⟩, k⟩ := hf.turn
      have hsz : (w.heap.modify g (Go.Sort.onCells (Go.Sort.putCells id 0 (flatK pcs 6 X'.toArray)))).size = w.heap.size := by simp
      have hrw : (sortWorldK pcs 6 w g 0 n X'.toArray os).ownsRow 0 44 6 (.slice (some ⟨g, 0, none⟩) X.length cap) X'.length (X'.flatMap pcs) := by
        refine ⟨flatMap_len' pcs_len X', .inr ⟨g, cap, Go.Sort.putCells id 0 (flatK pcs 6 X'.toArray) cur, by rw [hp1], Nat.zero_le _, ?_, by omega, hc2, by unfold Go.Sort.putCells; simpa using hc3, ?_⟩⟩
        · rw [sort_heap, Array.getElem?_append_left (by rw [hsz]; exact hg), Array.getElem?_modify, if_pos rfl, hcur]
          rfl
        · rw [put_take (by rw [size_flatK]; simp) (by rw [hc3]; exact Nat.mul_le_mul_right _ (by omega)), flatK_list]
      have h2 := k (RwA 44 6 (.slice (some ⟨g, 0, none⟩) X.length cap) X'.length (X'.flatMap pcs)) _ ⟨_, ⟨hrw, rfl⟩, ⟨rfl, rfl, rfl, by rw [sort_heap, Array.size_append, hsz]; omega, fun i hi hn => by
        rw [sort_heap, Array.getElem?_append_left (by rw [hsz]; exact hi), Array.getElem?_modify, if_neg]
        intro e
        exact hn (by rw [← e]; rfl)⟩, fun i hi => .inl hi⟩
      have h3 : St Zf (RwA 44 6 (.slice (some ⟨g, 0, none⟩) X.length cap) X'.length (X'.flatMap pcs) :: Sep (X'.map ppsA) :: l) w0 _ := h2.swap.mapHead (fun F hF => Sep.perm (hperm.symm.map ppsA) hF) |>.swap
      exact St.pack (l' := [_, _]) h3
end Go.Proofs.YtgpahglmhnnobaaGreatDoor
