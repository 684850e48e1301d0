/- Two records compared. -/
import Derived.Test.YtpoaokkmmoeekaaRcOpen
import Derived.Laws.StructEq
namespace Go.Proofs.Ytpoaokkmmoeekaa
open Go.RowKit
set_option linter.unusedVariables false
set_option maxRecDepth 100000 in
set_option maxHeartbeats 2000000 in
theorem rel_eql (x : RelC) (w : World) : (binOp .eql 44 (.agg #[.bool x.lv, .int .i64 x.fr, .int .i64 x.to, .int .i64 x.fp, .int .i64 x.tp, .int .i64 x.fn, .int .i64 x.tn, .int .i64 x.ty, .int .i64 x.pr]) (.agg #[.bool x.lv, .int .i64 x.fr, .int .i64 x.to, .int .i64 x.fp, .int .i64 x.tp, .int .i64 x.fn, .int .i64 x.tn, .int .i64 x.ty, .int .i64 x.pr])).run Try.prog w = .ok (.bool true) w := by
  go_simp
set_option maxRecDepth 100000 in
set_option maxHeartbeats 2000000 in
theorem rel_neq (x : RelC) (w : World) : (binOp .neq 44 (.agg #[.bool x.lv, .int .i64 x.fr, .int .i64 x.to, .int .i64 x.fp, .int .i64 x.tp, .int .i64 x.fn, .int .i64 x.tn, .int .i64 x.ty, .int .i64 x.pr]) (.agg #[.bool x.lv, .int .i64 x.fr, .int .i64 x.to, .int .i64 x.fp, .int .i64 x.tp, .int .i64 x.fn, .int .i64 x.tn, .int .i64 x.ty, .int .i64 x.pr])).run Try.prog w = .ok (.bool false) w := by
  go_simp
theorem rel_guard (op : BinOp) (a b : Operand) (xs ys : Array Value) (w : World) : (eqGuard op 44 a b (.agg xs) (.agg ys)).run Try.prog w = .ok () w := run_eqGuard_agg w op _ a b xs ys (by kernel_rfl)
set_option maxRecDepth 100000 in
set_option maxHeartbeats 2000000 in
theorem prop_eql (x : PropC) (w : World) : (binOp .eql 53 (.agg #[.int .i64 x.ky, .int .i64 x.kd, .int .i64 x.nu, .int .i64 x.bl, .int .i64 x.pv, .int .i64 x.nx]) (.agg #[.int .i64 x.ky, .int .i64 x.kd, .int .i64 x.nu, .int .i64 x.bl, .int .i64 x.pv, .int .i64 x.nx])).run Try.prog w = .ok (.bool true) w := by
  go_simp
set_option maxRecDepth 100000 in
set_option maxHeartbeats 2000000 in
theorem prop_neq (x : PropC) (w : World) : (binOp .neq 53 (.agg #[.int .i64 x.ky, .int .i64 x.kd, .int .i64 x.nu, .int .i64 x.bl, .int .i64 x.pv, .int .i64 x.nx]) (.agg #[.int .i64 x.ky, .int .i64 x.kd, .int .i64 x.nu, .int .i64 x.bl, .int .i64 x.pv, .int .i64 x.nx])).run Try.prog w = .ok (.bool false) w := by
  go_simp
theorem prop_guard (op : BinOp) (a b : Operand) (xs ys : Array Value) (w : World) : (eqGuard op 53 a b (.agg xs) (.agg ys)).run Try.prog w = .ok () w := run_eqGuard_agg w op _ a b xs ys (by kernel_rfl)
end Go.Proofs.Ytpoaokkmmoeekaa
