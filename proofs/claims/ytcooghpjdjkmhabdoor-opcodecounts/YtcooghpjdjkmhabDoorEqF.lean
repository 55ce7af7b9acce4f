/- Two forms held against each other. -/
import Derived.Test.YtcooghpjdjkmhabDoorOp1
namespace Go.Proofs.YtcooghpjdjkmhabDoor
open Go.RowKit
set_option linter.unusedVariables false
set_option linter.unusedSimpArgs false

set_option maxHeartbeats 2000000 in
theorem eq_forms (d f : Fm) (u : World) : (Op.equalIn 10000 24 (.agg #[.int .i64 d.kind, .int .i64 d.x, .int .i64 d.y, .int .i64 d.bytes, .int .i64 d.cycles, .int .i64 d.taken]) (.agg #[.int .i64 f.kind, .int .i64 f.x, .int .i64 f.y, .int .i64 f.bytes, .int .i64 f.cycles, .int .i64 f.taken])).run Tryd.prog u = .ok (d.same f) u := by
  unfold Fm.same
  cases h1 : (d.kind == f.kind)
  · simp [go_sem, h1]
  cases h2 : (d.x == f.x)
  · simp [go_sem, h1, h2]
  cases h3 : (d.y == f.y)
  · simp [go_sem, h1, h2, h3]
  cases h4 : (d.bytes == f.bytes)
  · simp [go_sem, h1, h2, h3, h4]
  cases h5 : (d.cycles == f.cycles)
  · simp [go_sem, h1, h2, h3, h4, h5]
  cases h6 : (d.taken == f.taken) <;> simp [go_sem, h1, h2, h3, h4, h5, h6]
end Go.Proofs.YtcooghpjdjkmhabDoor
