/- Pairs that are gathered: what an append wants to know. -/
import Derived.Test.YthkaeimpflggjaaPrs
namespace Go.Proofs.Ythkaeimpflggjaa

theorem Try.pairinfo : (Try.prog.info? 67).map (fun i => (i.zero, i.size, i.bytes)) = some (some (.agg #[.int .i32 0, .int .u16 0]), 2, 8) := by kernel_rfl

theorem Try.rpairinfo : (Try.prog.info? 117).map (fun i => (i.zero, i.size, i.bytes)) = some (some (.agg #[.int .i64 0, .int .i64 0]), 2, 16) := by kernel_rfl

end Go.Proofs.Ythkaeimpflggjaa
