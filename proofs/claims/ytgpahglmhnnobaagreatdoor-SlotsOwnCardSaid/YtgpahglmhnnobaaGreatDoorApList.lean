/- append(s, xs...) for lists of one-cell values. No program is named here. -/
import Derived.Test.YtgpahglmhnnobaaGreatDoorSep
namespace Go.Proofs.YtgpahglmhnnobaaGreatDoor
open Go.RowKit
set_option linter.unusedVariables false

section
variable {P : Program} (w : World) {α : Type} {f : α → Value}
theorem run_append_list (t ty : TypeId) (base : Nat) (e : TypeId) (i : TypeInfo) (z : Value) (bytes : Nat) (ht : P.underlying t = some (.slice e)) (hi : P.info? e = some i) (hz : i.zero = some z) (hsize : i.size = 1) (hby : i.bytes = bytes) (hzs : z.cells.size = 1)
    (v : Value) (L : List α) (hown : OL f w base e v L) (A : Option Addr) (cp B : Nat) (news : List α) (hr : RL f w B A news)
    (hbytes : (L.length + news.length) * bytes ≤ 140737488355328) (hb0 : 0 < bytes) (hbase : base ≤ w.heap.size) :
    ∃ v' w', (Builtin.append_ #[t, t] ty #[v, .slice A news.length cp]).run P w = .ok v' w' ∧ OL f w' base e v' (L ++ news) ∧ w.grownBy w' v.ownBlock ∧ (v'.ownBlock = v.ownBlock ∨ v'.ownBlock = some w.heap.size) := by
  have hall : ∀ x ∈ L ++ news, f x ≠ undef ∧ (f x).oneCell' = true := fun x hx => (List.mem_append.1 hx).elim (hown.1 x) (hr.2 x)
  have h64 : L.length + news.length ≤ (L.length + news.length) * bytes := Nat.le_mul_of_pos_right _ hb0
  rcases A with _ | ad
  · have hm : news.length = 0 := by
      rcases Nat.eq_zero_or_pos news.length with h0 | h0
      · exact h0
      · obtain ⟨_, h, _⟩ := hr.1.2 h0
        cases h
    have hn : news = [] := List.length_eq_zero_iff.1 hm
    subst hn
    refine ⟨v, w, ?_, by simpa using hown, World.grownBy.refl w _, .inl rfl⟩
    rcases hown.2.2 with ⟨rfl, _⟩ | ⟨g, cap, cur, rfl, _, _, hnc, _⟩
    · simp [Builtin.append_, run_underlying ht, sizeOf, typeInfo, hi, Builtin.lenOf, Builtin.firstCells]
    · simp [Builtin.append_, run_underlying ht, sizeOf, typeInfo, hi, Builtin.lenOf, Builtin.firstCells, hnc, storeCells]
  · have hcells : ∀ j u, (news.map f)[j]? = some u → w.cell? (ad.add j) = some u := by
      intro j u hu
      have hlt := (List.getElem?_eq_some_iff.1 hu).1
      rw [List.length_map] at hlt
      obtain ⟨ad', h, _, hc⟩ := hr.1.2 (by omega)
      injection h with h
      subst h
      exact hc j u hu
    obtain ⟨v', w', hrun, h2, h3, _, h5⟩ := run_append_own_at (P := P) w base t ty e i z 1 bytes ht hi hz hsize hby hzs (by omega) v L.length (L.map f) hown.2 ad news.length cp (news.map f) (by simp) hcells (fun u hu => by
      obtain ⟨x, hx, rfl⟩ := List.mem_map.1 hu
      exact (hr.2 x hx).2) (by simp only [maxLen]; omega) hbytes hbase
    exact ⟨v', w', hrun, ⟨hall, by rw [List.map_append]; simpa using h2⟩, h3, h5⟩

theorem wpList_append_list {ops : Array Oper} {rest : List Oper} {o : Oper} {a : Act} {Q : Exit → Act → World → Prop} (hgd : o.guard = none) (s x : Operand) (t : TypeId)
    (ho : o.op = .call { callee := .builtin .append, args := #[s, x], argTypes := #[t, t] })
    (base : Nat) (e : TypeId) (i : TypeInfo) (z : Value) (bytes : Nat) (ht : P.underlying t = some (.slice e)) (hi : P.info? e = some i) (hz : i.zero = some z) (hsize : i.size = 1) (hby : i.bytes = bytes) (hzs : z.cells.size = 1)
    (v : Value) (L : List α) (hs : a.eval s = v) (hown : OL f w base e v L)
    (A : Option Addr) (cp B : Nat) (news : List α) (m : Nat) (hm : news.length = m) (hx : a.eval x = .slice A m cp) (hr : RL f w B A news)
    (hbytes : (L.length + m) * bytes ≤ 140737488355328) (hb0 : 0 < bytes) (hbase : base ≤ w.heap.size)
    (h : ∀ v' w', OL f w' base e v' (L ++ news) → w.grownBy w' v.ownBlock → (v'.ownBlock = v.ownBlock ∨ v'.ownBlock = some w.heap.size) → wpList P ops Q rest (a.put o.dst v') w') :
    wpList P ops Q (o :: rest) a w := by
  subst hm
  refine wpList_plain hgd fun K hK => ?_
  obtain ⟨v', w', hrun, h2, h3, h4⟩ := run_append_list (P := P) w t o.type base e i z bytes ht hi hz hsize hby hzs v L hown A cp B news hr hbytes hb0 hbase
  unfold Oper.wp execOp
  simp only [ho, resolve, invoke, builtin, Sem.run_bind, Sem.run_pure, Result.andThen_ok, List.map_toArray, List.map_cons, List.map_nil, hs, hx, hrun]
  exact hK _ _ (h v' w' h2 h3 h4)
/-- likewise, at a step of a region that draws its order -/
theorem step_append_list {ops : Array Oper} {o : Oper} {a : Act} {K : Act → World → Prop} {Q : Exit → Act → World → Prop} {E : Prop} (hgd : o.guard = none) (s x : Operand) (t : TypeId)
    (ho : o.op = .call { callee := .builtin .append, args := #[s, x], argTypes := #[t, t] })
    (base : Nat) (e : TypeId) (i : TypeInfo) (z : Value) (bytes : Nat) (ht : P.underlying t = some (.slice e)) (hi : P.info? e = some i) (hz : i.zero = some z) (hsize : i.size = 1) (hby : i.bytes = bytes) (hzs : z.cells.size = 1)
    (v : Value) (L : List α) (hs : a.eval s = v) (hown : OL f w base e v L)
    (A : Option Addr) (cp B : Nat) (news : List α) (m : Nat) (hm : news.length = m) (hx : a.eval x = .slice A m cp) (hr : RL f w B A news)
    (hbytes : (L.length + m) * bytes ≤ 140737488355328) (hb0 : 0 < bytes) (hbase : base ≤ w.heap.size)
    (h : ∀ v' w', OL f w' base e v' (L ++ news) → w.grownBy w' v.ownBlock → (v'.ownBlock = v.ownBlock ∨ v'.ownBlock = some w.heap.size) → K (a.put o.dst v') w') :
    if Region.wanted o (yielded ops a.tmps) = true then Oper.wp P o a w K Q else E := by
  have hw : Region.wanted o (yielded ops a.tmps) = true := by simp [Region.wanted, hgd]
  rw [if_pos hw]
  subst hm
  obtain ⟨v', w', hrun, h2, h3, h4⟩ := run_append_list (P := P) w t o.type base e i z bytes ht hi hz hsize hby hzs v L hown A cp B news hr hbytes hb0 hbase
  unfold Oper.wp execOp
  simp only [ho, resolve, invoke, builtin, Sem.run_bind, Sem.run_pure, Result.andThen_ok, List.map_toArray, List.map_cons, List.map_nil, hs, hx, hrun]
  exact h v' w' h2 h3 h4
end

/-- append(s, x) of one element that lies in a block of its own, whose number is known in other words -/
theorem wpList_append_elemN {P : Program} {α : Type} {f : α → Value} (w : World) {ops : Array Oper} {rest : List Oper} {o : Oper} {a : Act} {Q : Exit → Act → World → Prop} (hgd : o.guard = none) (s x : Operand) (t : TypeId)
    (ho : o.op = .call { callee := .builtin .append, args := #[s, x], argTypes := #[t, t] })
    (base : Nat) (e : TypeId) (i : TypeInfo) (z : Value) (bytes : Nat) (ht : P.underlying t = some (.slice e)) (hi : P.info? e = some i) (hz : i.zero = some z) (hsize : i.size = 1) (hby : i.bytes = bytes) (hzs : z.cells.size = 1)
    (v : Value) (L : List α) (hs : a.eval s = v) (hown : OL f w base e v L) (y : α) (hy : f y ≠ undef ∧ (f y).oneCell' = true) (N : Nat) (hN : w.heap.size = N)
    (hx : a.eval x = .slice (some ⟨N, 0, none⟩) 1 1) (hbytes : (L.length + 1) * bytes ≤ 140737488355328) (hb0 : 0 < bytes) (hbase : base ≤ w.heap.size)
    (h : ∀ v' w', OL f w' base e v' (L ++ [y]) → w.grownBy w' v.ownBlock → (v'.ownBlock = v.ownBlock ∨ v'.ownBlock = some (w.heap.size + 1)) → wpList P ops Q rest (a.put o.dst v') w') :
    wpList P ops Q (o :: rest) a (w.alloc (.cells #[f y] e)) := by
  subst hN
  exact wpList_append_elem w hgd s x t ho base e i z bytes ht hi hz hsize hby hzs v L hs hown y hy hx hbytes hb0 hbase h

section
end

end Go.Proofs.YtgpahglmhnnobaaGreatDoor
