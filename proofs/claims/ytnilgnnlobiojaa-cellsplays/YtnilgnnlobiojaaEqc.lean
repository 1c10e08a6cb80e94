/- == and != of cells. -/
import Derived.Test.YtnilgnnlobiojaaSt
namespace Go.Proofs.Ytnilgnnlobiojaa
open Go.RowKit
def sameC (a b c d : Int) : Bool := decide ((a, b) = (c, d))
theorem run_neqC (a b c d : Int) (w : World) : (binOp .neq 32 (.agg #[.int .i64 a, .int .i64 b]) (.agg #[.int .i64 c, .int .i64 d])).run Try.prog w = .ok (.bool (!sameC a b c d)) w := by
  unfold sameC
  rw [run_neq_struct]
  have h := run_eqIn 9998 a b c d w
  unfold C at h
  rw [h, Result.andThen_ok]
  congr 2
  by_cases h1 : a = c <;> by_cases h2 : b = d <;> simp [h1, h2]
theorem run_eqlC (a b c d : Int) (w : World) : (binOp .eql 32 (.agg #[.int .i64 a, .int .i64 b]) (.agg #[.int .i64 c, .int .i64 d])).run Try.prog w = .ok (.bool (sameC a b c d)) w := by
  unfold sameC
  rw [run_eql_struct]
  have h := run_eqIn 9998 a b c d w
  unfold C at h
  rw [h, Result.andThen_ok]
  congr 2
  by_cases h1 : a = c <;> by_cases h2 : b = d <;> simp [h1, h2]
theorem sameC_self (a b : Int) : sameC a b a b = true := by unfold sameC; simp
end Go.Proofs.Ytnilgnnlobiojaa
