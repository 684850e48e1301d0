/- lexer: slices.Grow of tokens; All. -/
import Derived.Test.YthmgkjfohkadoaaGreatDoorLxL
import Derived.Lib.AppendZeros
namespace Go.Proofs.YthmgkjfohkadoaaGreatDoor
open Go.RowKit Go.Shelf
set_option linter.unusedVariables false
set_option linter.unusedSimpArgs false
attribute [local go_sem] Oper.semAt_some

def tkF (t : Tk) : List Value := [.int .i64 t.k, .string (mkS t.t), .int .i64 t.n, .int .i64 (t.p : Int)]
theorem tkF_row : RowF tkF 4 := ⟨fun _ => rfl, fun x u hu => by
  simp only [tkF, List.mem_cons, List.not_mem_nil, or_false] at hu
  rcases hu with rfl | rfl | rfl | rfl <;> rfl, by decide⟩
theorem tk_info : (Tryz.prog.info? 30).map (fun i => (i.zero.map (·.cells.size), i.size, i.bytes)) = some (some 4, 4, 40) := by kernel_rfl
theorem wpList_append_run {P : Program} (w : World) {ops : Array Oper} {rest : List Oper} {o : Oper} {a : Act} {Q : Exit → Act → World → Prop} (hgd : o.guard = none) (x y : Operand) (ts : Array TypeId)
    (ho : o.op = .call { callee := .builtin .append, args := #[x, y], argTypes := ts }) (vx vy : Value) (hx : a.eval x = vx) (hy : a.eval y = vy) (v' : Value) (w' : World)
    (hr : (Builtin.append_ ts o.type #[vx, vy]).run P w = .ok v' w') (h : wpList P ops Q rest (a.put o.dst v') w') : wpList P ops Q (o :: rest) a w := by
  refine wpList_plain hgd fun K hK => ?_
  unfold Oper.wp execOp
  simp only [ho, resolve, invoke, builtin, Sem.run_bind, Sem.run_pure, Result.andThen_ok, List.map_toArray, List.map_cons, List.map_nil, hx, hy, hr]
  exact hK _ _ h
theorem growL {w : World} {n G : Nat} {C : Array Value} (hC : C.size = G * 4) (hG : n ≤ G) (hm : G ≤ maxLen) : St Zf [OwA tkF 4 30 (.slice (some ⟨w.heap.size, 0, none⟩) 0 G) []] w (w.drew.alloc (.cells C 30)) := by
  refine (St.start Zf w).newOw (L := []) ⟨rfl, .inr ⟨w.heap.size, G, C, rfl, Nat.le_refl _, heap_alloc_new w.drew _, Nat.zero_le _, hm, hC, by simp⟩⟩ ((Below.refl _ _).drew.alloc (Nat.le_refl _) _)
set_option maxHeartbeats 1000000 in
theorem Grow_any (n : Nat) (w : World) (hn : n ≤ 16777216) :
    Calls Tryz.prog 25 #[.slice none 0 0, .int .i64 (n : Int)] w fun e w' => ∃ v, e = .returned v ∧ St Zf [OwA tkF 4 30 v []] w w' := by
  rcases Nat.eq_zero_or_pos n with h0 | h0
  · subst h0
    go_enter Tryz.func25, Tryz.ntmps25
    go_wp2
    go_ret
    exact ⟨_, rfl, (St.start Zf w).nilOw tkF 4 30⟩
  · obtain ⟨i0, z0, hi0, hz0, hz1, hz2, hz3⟩ := row_info tk_info
    have hr := fun ty => Lib.run_append_nil_zeros (P := Tryz.prog) w 26 3 ty 30 i0 z0 .i64 .i64 Tryz.underlying26 Tryz.underlying3 hi0 hz0 n h0 (by omega) (by omega) (by rw [hz2]; omega)
    have hG := grownCap_ge w n 0 30
    have hGm := grownCap_le_maxLen w n 0 30 (by unfold maxLen; omega)
    have hC : (Builtin.zeroCells z0.cells n ++ Builtin.zeroCells z0.cells (grownCap w n 0 30 - n)).size = grownCap w n 0 30 * 4 := by
      rw [Array.size_append, size_zeroCells, size_zeroCells, hz3]
      omega
    generalize Builtin.zeroCells z0.cells n ++ Builtin.zeroCells z0.cells (grownCap w n 0 30 - n) = C at hr hC
    generalize grownCap w n 0 30 = G at hr hC hG hGm
    have HST := Lib.hid (growL (w := w) hC hG hGm)
    have hG0 : (0 : Int) ≤ (G : Int) := by omega
    have hpi : (0 : Int) < (n : Int) := by omega
    have hGl : (G : Int) ≤ 9223372036854775807 := by unfold maxLen at hGm; omega
    have HR := Lib.hid hr
    clear hi0 hz0 hz1 hz2 hz3 hC hr
    go_enter Tryz.func25, Tryz.ntmps25
    go_wp2_with (at_builtin; refine wpList_append_run _ rfl _ _ _ rfl _ _ (by rfl) (by rfl) _ _ (HR.out _) ?_)
    go_ret
    exact ⟨_, rfl, HST.out⟩
end Go.Proofs.YthmgkjfohkadoaaGreatDoor
