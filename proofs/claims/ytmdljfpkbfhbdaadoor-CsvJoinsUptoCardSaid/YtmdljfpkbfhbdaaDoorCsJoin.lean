/- csv: two texts, one behind the other; append of a list behind a guard. -/
import Derived.Test.YtmdljfpkbfhbdaaDoorCsLaw
namespace Go.Proofs.YtmdljfpkbfhbdaaDoor
open Go.RowKit
set_option linter.unusedVariables false

theorem lS_app (a b : ByteArray) : lS (a ++ b) = lS a ++ lS b := by simp [lS]
theorem join_parse {a b : ByteArray} (h0 : errP a = 0) (hl : (lS a).getLast? = some 10) : errP (a ++ b) = errP b ∧ rowsP (a ++ b) = if errP b = 0 then rowsP a ++ rowsP b else [] := by
  have h := csvR_join (lS a) (lS b) hl h0
  rw [← lS_app] at h
  have h1 : errP (a ++ b) = errP b := by
    unfold errP
    rw [h]
  refine ⟨h1, ?_⟩
  by_cases hb : errP b = 0
  · rw [if_pos hb]
    have h2 : rowsP (a ++ b) = (csvR (lS (a ++ b))).1 := if_pos (h1.trans hb)
    have h3 : rowsP a = (csvR (lS a)).1 := if_pos h0
    have h4 : rowsP b = (csvR (lS b)).1 := if_pos hb
    rw [h2, h3, h4, h]
  · rw [if_neg hb]
    exact if_neg (by rw [← h1] at hb; exact hb)
theorem last10 {l : Bs} {m : Nat} (h : l.drop m = [13, 10]) : l.getLast? = some 10 := by
  have e : l = l.take m ++ [13, 10] := by
    conv => lhs; rw [← List.take_append_drop m l]
    rw [h]
  rw [e, List.getLast?_append]
  rfl
section
variable {P : Program} (w : World) {α : Type} {f : α → Value}
theorem wpList_append_listG {ops : Array Oper} {rest : List Oper} {o : Oper} {a : Act} {Q : Exit → Act → World → Prop} (s x : Operand) (t : TypeId)
    (ho : o.op = .call { callee := .builtin .append, args := #[s, x], argTypes := #[t, t] })
    (base : Nat) (e : TypeId) (i : TypeInfo) (z : Value) (bytes : Nat) (ht : P.underlying t = some (.slice e)) (hi : P.info? e = some i) (hz : i.zero = some z) (hsize : i.size = 1) (hby : i.bytes = bytes) (hzs : z.cells.size = 1)
    (v : Value) (L : List α) (hs : a.eval s = v) (hown : OL f w base e v L)
    (A : Option Addr) (cp B : Nat) (news : List α) (m : Nat) (hm : news.length = m) (hx : a.eval x = .slice A m cp) (hr : RL f w B A news)
    (hbytes : (L.length + m) * bytes ≤ 140737488355328) (hb0 : 0 < bytes) (hbase : base ≤ w.heap.size) (hw : Region.wanted o (yielded ops a.tmps) = true)
    (h : ∀ v' w', OL f w' base e v' (L ++ news) → w.grownBy w' v.ownBlock → (v'.ownBlock = v.ownBlock ∨ v'.ownBlock = some w.heap.size) → wpList P ops Q rest (a.put o.dst v') w') :
    wpList P ops Q (o :: rest) a w := by
  subst hm
  refine wpList_want hw fun K hK => ?_
  obtain ⟨v', w', hrun, h2, h3, h4⟩ := run_append_list (P := P) w t o.type base e i z bytes ht hi hz hsize hby hzs v L hown A cp B news hr hbytes hb0 hbase
  unfold Oper.wp execOp
  simp only [ho, resolve, invoke, builtin, Sem.run_bind, Sem.run_pure, Result.andThen_ok, List.map_toArray, List.map_cons, List.map_nil, hs, hx, hrun]
  exact hK _ _ (h v' w' h2 h3 h4)
end
end Go.Proofs.YtmdljfpkbfhbdaaDoor
