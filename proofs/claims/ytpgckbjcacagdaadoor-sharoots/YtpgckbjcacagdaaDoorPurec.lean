/- The padding, and the digest of bytes: no program in it. -/
import Derived.Test.YtpgckbjcacagdaaDoorPureb
namespace Go.Proofs.YtpgckbjcacagdaaDoor
/-- The lowest k bytes of m, the highest first. -/
def lenB (m : Nat) : Nat → List Byte
  | 0 => []
  | k + 1 => BitVec.ofNat 8 (m / 2 ^ (8 * k)) :: lenB m k
theorem lenB_length (m : Nat) : ∀ k, (lenB m k).length = k
  | 0 => rfl
  | k + 1 => by simp [lenB, lenB_length m k]
/-- How many bytes the padding behind n bytes has. -/
def freeOf (n : Nat) : Nat := if 64 - n % 64 < 9 then 64 - n % 64 + 64 else 64 - n % 64
theorem freeOf_bd (n : Nat) : 9 ≤ freeOf n ∧ freeOf n ≤ 72 ∧ (n + freeOf n) % 64 = 0 := by
  unfold freeOf; split <;> omega
def padOf (n : Nat) : List Byte := 128 :: (List.replicate (freeOf n - 1 - 8) 0 ++ lenB (8 * n) 8)
theorem padOf_length (n : Nat) : (padOf n).length = freeOf n := by
  have := freeOf_bd n
  simp [padOf, lenB_length]; omega
theorem padOf_ne (n : Nat) : padOf n ≠ [] := by simp [padOf]
/-- SHA-256. -/
def digest (L : List Byte) : List Byte := bytesOf (hashTo (L ++ padOf L.length) ((L ++ padOf L.length).length / 64)).list
theorem digest_length (L : List Byte) : (digest L).length = 32 := by unfold digest; rw [bytesOf_length]; rfl
/-- The array of 72 bytes while the number is written into it. -/
def tailTo (fr m k : Nat) : List Byte := 128 :: (List.replicate (fr - 1 - k) 0 ++ lenB m k ++ List.replicate (72 - fr) 0)
theorem tailTo_length (fr m k : Nat) (hf : 9 ≤ fr) (hf2 : fr ≤ 72) (hk : k ≤ 8) : (tailTo fr m k).length = 72 := by
  simp [tailTo, lenB_length]; omega
theorem tailTo_set (fr m k : Nat) (hf : 9 ≤ fr) (hk : k < 8) : (tailTo fr m k).set (fr - 1 - k) (BitVec.ofNat 8 (m / 2 ^ (8 * k))) = tailTo fr m (k + 1) := by
  unfold tailTo
  obtain ⟨q, hq⟩ : ∃ q, fr - 1 - k = q + 1 := ⟨fr - 2 - k, by omega⟩
  have e : fr - 1 - (k + 1) = q := by omega
  rw [hq, e, List.set_cons_succ]
  congr 1
  rw [List.replicate_succ', List.append_assoc, List.append_assoc, List.set_append_right _ _ (by simp)]
  simp [lenB]
theorem tailTo_take (n : Nat) : (tailTo (freeOf n) (8 * n) 8).take (freeOf n) = padOf n := by
  have := freeOf_bd n
  obtain ⟨q, hq⟩ : ∃ q, freeOf n = q + 1 := ⟨freeOf n - 1, by omega⟩
  unfold tailTo padOf
  rw [hq, List.take_succ_cons]
  congr 1
  rw [List.take_append_of_le_length (by simp [lenB_length]; omega), List.take_of_length_le (by simp [lenB_length]; omega)]
theorem tailTo_zero (fr m : Nat) (hf : 9 ≤ fr) (hf2 : fr ≤ 72) : tailTo fr m 0 = (List.replicate 72 (0 : Byte)).set 0 128 := by
  unfold tailTo
  simp only [lenB, List.append_nil, Nat.sub_zero, List.replicate_append_replicate]
  rw [show fr - 1 + (72 - fr) = 71 by omega]
  rfl
end Go.Proofs.YtpgckbjcacagdaaDoor
