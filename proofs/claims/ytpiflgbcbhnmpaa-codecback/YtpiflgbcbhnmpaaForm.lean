/- What Formed and what it calls answer. -/
import Derived.Test.YtpiflgbcbhnmpaaRsgn
import Derived.Test.YtpiflgbcbhnmpaaMem
namespace Go.Proofs.Ytpiflgbcbhnmpaa
open Go.RowKit
/-- A command as a value. -/
def cmd (k u t h x y : Int) : Value := .agg #[.int .i64 k, .int .i64 u, .int .i64 t, .int .i64 h, .int .i64 x, .int .i64 y]
/-- Which fields a kind names. -/
def nU (k : Int) : Bool := k == 1 || k == 3 || k == 2 || k == 4 || k == 5
def nT (k : Int) : Bool := k == 2
def nW (k : Int) : Bool := k == 4
def nC (k : Int) : Bool := k == 1 || k == 3
theorem size118 : (Try.prog.info? 118).map (·.size) = some 4 := by kernel_rfl
theorem size52 : (Try.prog.info? 52).map (·.size) = some 6 := by kernel_rfl
set_option maxRecDepth 100000 in
theorem namedBy_any (k : Int) (w : World) : Calls Try.prog 88 #[.int .i64 k] w fun e w' => e = .returned (.agg #[.bool (nU k), .bool (nT k), .bool (nW k), .bool (nC k)]) ∧ Below w.heap.size w w' := by
  have hc : k = 1 ∨ k = 2 ∨ k = 3 ∨ k = 4 ∨ k = 5 ∨ ((k == 1) = false ∧ (k == 2) = false ∧ (k == 3) = false ∧ (k == 4) = false ∧ (k == 5) = false) := by simp; omega
  rcases hc with rfl | rfl | rfl | rfl | rfl | ⟨h1, h2, h3, h4, h5⟩
  case' inr.inr.inr.inr.inr => rw [show nU k = false by simp [nU, h1, h2, h3, h4, h5], show nT k = false by simp [nT, h2], show nW k = false by simp [nW, h4], show nC k = false by simp [nC, h1, h3]]
  all_goals
    go_enter Try.func88, Try.ntmps88
    go_wp2
    exact bodyPost_ret (results_array Try.results88 rfl (Blk.new _ [_, _, _, _] _) Try.underlying118 rfl size118) rfl ⟨rfl, (Below.refl _ _).alloc (Nat.le_refl _) _⟩
theorem within_any (a b : Int) (w : World) : Calls Try.prog 82 #[.int .i64 a, .int .i64 b] w fun e w' => e = .returned (.bool (decide (0 ≤ a) && decide (a ≤ b))) ∧ w' = w := by
  by_cases h : 0 ≤ a
  · have e : decide (0 ≤ a) = true := by simpa using h
    rw [e, Bool.true_and]
    go_enter Try.func82, Try.ntmps82
    go_wp2
    go_ret
    exact ⟨rfl, rfl⟩
  · have e : decide (0 ≤ a) = false := by simpa using h
    rw [e, Bool.false_and]
    go_enter Try.func82, Try.ntmps82
    go_wp2
    go_ret
    exact ⟨rfl, rfl⟩
end Go.Proofs.Ytpiflgbcbhnmpaa
