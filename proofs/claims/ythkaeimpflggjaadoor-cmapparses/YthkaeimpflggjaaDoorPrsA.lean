/- Pairs that are gathered: what an append wants to know. -/
import Derived.Test.YthkaeimpflggjaaDoorPrs
namespace Go.Proofs.YthkaeimpflggjaaDoor

theorem Tryd.pairinfo : (Tryd.prog.info? 45).map (fun i => (i.zero, i.size, i.bytes)) = some (some (.agg #[.int .i32 0, .int .u16 0]), 2, 8) := by kernel_rfl

theorem Tryd.rpairinfo : (Tryd.prog.info? 60).map (fun i => (i.zero, i.size, i.bytes)) = some (some (.agg #[.int .i64 0, .int .i64 0]), 2, 16) := by kernel_rfl

end Go.Proofs.YthkaeimpflggjaaDoor
