/- Two groups compared. Written by mkrdopen.py. -/
import Derived.Test.YtmiiogailnjfpaaRdPureGroup
import Derived.Laws.StructEq
namespace Go.Proofs.Ytmiiogailnjfpaa
open Go.RowKit
set_option linter.unusedVariables false
set_option maxRecDepth 100000 in
set_option maxHeartbeats 2000000 in
theorem group_eql (x : GroupC) (w : World) : (binOp .eql 56 (.agg #[.bool x.lv, .int .i64 x.ty, .int .i64 x.ow, .int .i64 x.ou, .int .i64 x.ni, .int .i64 x.lp, .int .i64 x.nx]) (.agg #[.bool x.lv, .int .i64 x.ty, .int .i64 x.ow, .int .i64 x.ou, .int .i64 x.ni, .int .i64 x.lp, .int .i64 x.nx])).run Try.prog w = .ok (.bool true) w := by
  go_simp
set_option maxRecDepth 100000 in
set_option maxHeartbeats 2000000 in
theorem group_neq (x : GroupC) (w : World) : (binOp .neq 56 (.agg #[.bool x.lv, .int .i64 x.ty, .int .i64 x.ow, .int .i64 x.ou, .int .i64 x.ni, .int .i64 x.lp, .int .i64 x.nx]) (.agg #[.bool x.lv, .int .i64 x.ty, .int .i64 x.ow, .int .i64 x.ou, .int .i64 x.ni, .int .i64 x.lp, .int .i64 x.nx])).run Try.prog w = .ok (.bool false) w := by
  go_simp
end Go.Proofs.Ytmiiogailnjfpaa
