/- The program's Text 12. -/
import Derived.Test.YthinldcblbgdnaaDoorBls
import Derived.StillTailTactics
namespace Go.Proofs.YthinldcblbgdnaaDoor
open Go.RowKit
/-- The signs of x cells from the cell i on. -/
def sgRow (m : Mp) (i : Nat) : Nat → List Int
  | 0 => []
  | x + 1 => sgRow m i x ++ [sgAt m (i + x)]
theorem txt_in (m : Mp) (K y : Nat) (hK : m.W.toNat = K) : ∀ x, x < K → txtTo m (y * K + x) = txtTo m (y * K) ++ sgRow m (y * K) x
  | 0, _ => by simp [sgRow]
  | x + 1, h => by
    have ih := txt_in m K y hK x (by omega)
    have e : (y * K + x) % K = x := by rw [Nat.add_comm, Nat.add_mul_mod_self_right, Nat.mod_eq_of_lt (by omega)]
    rw [← Nat.add_assoc, txtTo, ih, hK, e, if_neg (by omega), List.append_nil, List.append_assoc]; rfl
theorem txt_row (m : Mp) (K y : Nat) (hK : m.W.toNat = K) (h0 : 0 < K) : txtTo m ((y + 1) * K) = txtTo m (y * K) ++ sgRow m (y * K) K ++ [10] := by
  obtain ⟨k, rfl⟩ : ∃ k, K = k + 1 := ⟨K - 1, by omega⟩
  have e1 : (y + 1) * (k + 1) = y * (k + 1) + k + 1 := by rw [Nat.add_mul]; omega
  have e : (y * (k + 1) + k) % (k + 1) = k := by rw [Nat.add_comm, Nat.add_mul_mod_self_right, Nat.mod_eq_of_lt (by omega)]
  rw [e1, txtTo, txt_in m (k + 1) y hK k (by omega), hK, e, if_pos rfl]
  simp [sgRow]
theorem sgRow_len (m : Mp) (i : Nat) : ∀ x, (sgRow m i x).length = x
  | 0 => rfl
  | x + 1 => by rw [sgRow, List.length_append, sgRow_len m i x]; rfl
theorem sgB_byte {t o : Int} (h : ((t = 0 ∨ t = 1) ∧ o = 0) ∨ (t = 2 ∧ 0 ≤ o ∧ o ≤ 1000)) : 0 ≤ sgnB t o ∧ sgnB t o < 256 := by
  unfold sgnB
  split
  · omega
  · split
    · omega
    · split <;> omega
theorem txtTo_byte {m : Mp} (h : formed m = true) : ∀ i, i ≤ m.ts.length → ∀ z ∈ txtTo m i, 0 ≤ z ∧ z < 256
  | 0, _, z, hz => by simp [txtTo] at hz
  | i + 1, hi, z, hz => by
    have ht := tile_at h (show i < m.ts.length by omega)
    have h1 : ((m.ts.getD i 0 = 0 ∨ m.ts.getD i 0 = 1) ∧ m.os.getD i 0 = 0) ∨ (m.ts.getD i 0 = 2 ∧ 0 ≤ m.os.getD i 0 ∧ m.os.getD i 0 ≤ 1000) := by
      unfold isTile at ht
      simp only [Bool.or_eq_true, Bool.and_eq_true, beq_iff_eq, decide_eq_true_eq] at ht
      omega
    rw [txtTo, List.mem_append, List.mem_append] at hz
    rcases hz with (hz | hz) | hz
    · exact txtTo_byte h i (by omega) z hz
    · simp at hz; subst hz; exact sgB_byte h1
    · split at hz
      · simp at hz; omega
      · simp at hz
theorem okTo_le {m : Mp} {n : Nat} : ∀ i, okTo m i = true → n ≤ i → okTo m n = true
  | 0, h, hn => by obtain rfl : n = 0 := by omega
                   exact h
  | i + 1, h, hn => by
    rcases Nat.lt_or_ge i n with h1 | h1
    · obtain rfl : n = i + 1 := by omega
      exact h
    · rw [okTo, Bool.and_eq_true] at h
      exact okTo_le i h.1 h1
theorem txtTo_ne {m : Mp} : ∀ i, 0 < i → txtTo m i ≠ []
  | 0, h => by omega
  | i + 1, _ => by simp [txtTo]
end Go.Proofs.YthinldcblbgdnaaDoor
