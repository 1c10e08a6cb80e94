/- Lines: the greater distance. -/
import Derived.Test.YteijncfnifebjaaDist
namespace Go.Proofs.Yteijncfnifebjaa
open Go.RowKit
/-- The greater of both distances. -/
def far (ax ay bx by_ : Int) : Int := max (apt ax bx) (apt ay by_)
/-- The line's cell at k. -/
def cellAt (ax ay bx by_ : Int) (k : Nat) : Int × Int := (btw ax bx k (far ax ay bx by_), btw ay by_ k (far ax ay bx by_))
/-- The line back has the same places. -/
theorem btw_back {a b k n : Int} (hn : 0 < n) : btw b a (n - k) n = btw a b k n := by
  unfold btw
  have e : 2 * (n - k) * (a - b) + n = (2 * k * (b - a) + n) + (a - b) * (2 * n) := by
    rw [show 2 * (n - k) = 2 * n - 2 * k by omega, Int.sub_mul, show a - b = -(b - a) by omega, Int.mul_neg, Int.mul_neg, Int.neg_mul, Int.mul_comm (b - a) (2 * n)]
    omega
  rw [e, Int.add_mul_ediv_right _ _ (by omega)]
  omega
theorem btw_start {a b n : Int} (hn : 0 < n) : btw a b 0 n = a := by
  unfold btw
  rw [Int.mul_zero, Int.zero_mul, Int.zero_add]
  have : n / (2 * n) = 0 := Int.ediv_eq_zero_of_lt (by omega) (by omega)
  omega
theorem btw_end {a b n : Int} (hn : 0 < n) : btw a b n n = b := by
  have := btw_back (a := b) (b := a) (k := 0) hn
  rw [Int.sub_zero] at this
  rw [this]; exact btw_start hn
/-- From a place to the next one it is a step of -1, 0 or 1, where the ends are at most n apart. -/
theorem btw_step {a b k n : Int} (hn : 0 < n) (hd : -n ≤ b - a ∧ b - a ≤ n) : -1 ≤ btw a b (k + 1) n - btw a b k n ∧ btw a b (k + 1) n - btw a b k n ≤ 1 := by
  unfold btw
  have e : 2 * (k + 1) * (b - a) + n = (2 * k * (b - a) + n) + 2 * (b - a) := by
    rw [Int.mul_add, Int.mul_one, Int.add_mul]; omega
  rw [e]
  generalize 2 * k * (b - a) + n = x
  generalize b - a = d at hd
  have h1 : (x + 2 * d) / (2 * n) ≤ (x + 1 * (2 * n)) / (2 * n) := Int.ediv_le_ediv (by omega) (by omega)
  have h2 : (x + (-1) * (2 * n)) / (2 * n) ≤ (x + 2 * d) / (2 * n) := Int.ediv_le_ediv (by omega) (by omega)
  rw [Int.add_mul_ediv_right _ _ (by omega)] at h1 h2
  omega
/-- Along the greater distance each step is a whole one. -/
theorem btw_whole {a b k n : Int} (hn : 0 < n) (hd : b - a = n ∨ a - b = n) : btw a b k n = if b - a = n then a + k else a - k := by
  unfold btw
  have hh : n / (2 * n) = 0 := Int.ediv_eq_zero_of_lt (by omega) (by omega)
  by_cases h : b - a = n
  · rw [if_pos h, h]
    have e : 2 * k * n + n = n + k * (2 * n) := by rw [Int.mul_comm 2 k, Int.mul_assoc]; omega
    rw [e, Int.add_mul_ediv_right _ _ (by omega), hh]; omega
  · rw [if_neg h]
    have hb : b - a = -n := by omega
    rw [hb]
    have e : 2 * k * -n + n = n + (-k) * (2 * n) := by rw [Int.mul_comm 2 k, Int.mul_assoc, Int.neg_mul, Int.mul_neg, Int.mul_neg]; omega
    rw [e, Int.add_mul_ediv_right _ _ (by omega), hh]; omega
end Go.Proofs.Yteijncfnifebjaa
