/- A member of an array of four cells. -/
import Derived.Test.YtemcbonmlmobkaaOwnC
namespace Go.Proofs.Ytemcbonmlmobkaa
open Go.RowKit
theorem idx0 (v0 v1 v2 v3 v4 v5 v6 v7 : Value) (w : World) : (Instr.index 63 (.agg #[v0, v1, v2, v3, v4, v5, v6, v7]) (.int .i64 0)).run Try.prog w = .ok (.agg #[v0, v1]) w := by
  simp [Instr.index, Try.sizeOf27, go_sem]
theorem idx1 (v0 v1 v2 v3 v4 v5 v6 v7 : Value) (w : World) : (Instr.index 63 (.agg #[v0, v1, v2, v3, v4, v5, v6, v7]) (.int .i64 1)).run Try.prog w = .ok (.agg #[v2, v3]) w := by
  simp [Instr.index, Try.sizeOf27, go_sem]
theorem idx2 (v0 v1 v2 v3 v4 v5 v6 v7 : Value) (w : World) : (Instr.index 63 (.agg #[v0, v1, v2, v3, v4, v5, v6, v7]) (.int .i64 2)).run Try.prog w = .ok (.agg #[v4, v5]) w := by
  simp [Instr.index, Try.sizeOf27, go_sem]
theorem idx3 (v0 v1 v2 v3 v4 v5 v6 v7 : Value) (w : World) : (Instr.index 63 (.agg #[v0, v1, v2, v3, v4, v5, v6, v7]) (.int .i64 3)).run Try.prog w = .ok (.agg #[v6, v7]) w := by
  simp [Instr.index, Try.sizeOf27, go_sem]
end Go.Proofs.Ytemcbonmlmobkaa
