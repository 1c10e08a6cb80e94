/- Rock and free ground; signs. -/
import Derived.Test.YtgkjlfpkhpnpfaaInside
namespace Go.Proofs.Ytgkjlfpkhpnpfaa
open Go.RowKit
theorem formed_of {m : Mp} (h : formed m = true) : (4 ≤ m.W ∧ m.W ≤ 20) ∧ (4 ≤ m.H ∧ m.H ≤ 20) ∧ (m.ts.length : Int) = m.W * m.H ∧ (m.os.length : Int) = m.W * m.H ∧ tilesTo m m.ts.length = true := by
  simp only [formed, Bool.and_eq_true, beq_iff_eq] at h
  obtain ⟨⟨⟨⟨h1, h2⟩, h3⟩, h4⟩, h5⟩ := h
  exact ⟨side_of h1, side_of h2, h3, h4, h5⟩
theorem holds_of {m : Mp} {x y : Int} (h : holds m x y = true) : 0 ≤ x ∧ x < m.W ∧ 0 ≤ y ∧ y < m.H := by simpa [holds, and_assoc] using h
theorem place_lt {a b x y : Int} (ha : 4 ≤ a ∧ a ≤ 20) (hb : 4 ≤ b ∧ b ≤ 20) (h : 0 ≤ x ∧ x < a ∧ 0 ≤ y ∧ y < b) : 0 ≤ y * a ∧ y * a ≤ 400 ∧ y * a + x < a * b := by
  have h1 := Int.mul_nonneg h.2.2.1 (show 0 ≤ a by omega)
  have h2 := Int.mul_le_mul_of_nonneg_right (show y ≤ b - 1 by omega) (show 0 ≤ a by omega)
  have h3 : (b - 1) * a = a * b - a := by rw [Int.sub_mul, Int.mul_comm b a]; omega
  have h4 := (prod_bound ha hb).2
  omega
def free (m : Mp) (x y : Int) : Bool := formed m && holds m x y && !rock m x y
end Go.Proofs.Ytgkjlfpkhpnpfaa
