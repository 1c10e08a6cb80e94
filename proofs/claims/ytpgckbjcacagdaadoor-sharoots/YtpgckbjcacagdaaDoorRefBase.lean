/- Products of words with a power of two, and a word as the sum of its bytes. -/
import Derived.Test.YtpgckbjcacagdaaDoorLeaf
import Derived.Test.YtpgckbjcacagdaaDoorSame
namespace Go.Proofs.YtpgckbjcacagdaaDoor
open Go.RowKit

theorem run_mul_U {P : Program} (w : World) (t : TypeId) (x : Word) (n : Nat) (hn : n < 4294967296) : (binOp .mul t (U x) (.int .u32 n)).run P w = .ok (U (x * BitVec.ofNat 32 n)) w := by
  simp only [binOp, U, Op.intArith, ne_eq, not_true_eq_false, if_false]
  rw [wrap_u32 (x * BitVec.ofNat 32 n)]
  · rfl
  · rw [BitVec.toNat_mul, BitVec.toNat_ofNat, Nat.mod_eq_of_lt (by omega : n < 2 ^ 32)]
    simp
theorem run_mul24 {P : Program} (w : World) (t : TypeId) (x : Word) : (binOp .mul t (U x) (.int .u32 16777216)).run P w = .ok (U (x * 16777216#32)) w := run_mul_U w t x 16777216 (by omega)
theorem run_mul16 {P : Program} (w : World) (t : TypeId) (x : Word) : (binOp .mul t (U x) (.int .u32 65536)).run P w = .ok (U (x * 65536#32)) w := run_mul_U w t x 65536 (by omega)
theorem run_mul8 {P : Program} (w : World) (t : TypeId) (x : Word) : (binOp .mul t (U x) (.int .u32 256)).run P w = .ok (U (x * 256#32)) w := run_mul_U w t x 256 (by omega)
theorem run_xorAll {P : Program} (w : World) (t : TypeId) (x : Word) : (binOp .xor t (U x) (.int .u32 4294967295)).run P w = .ok (U (~~~ x)) w := by
  have e : (Value.int .u32 4294967295) = U (BitVec.allOnes 32) := rfl
  rw [e, run_xor_U, BitVec.xor_allOnes]

theorem nat4 (A B C D : Nat) (hB : B < 256) (hC : C < 256) (hD : D < 256) :
    ((A <<< 24 ||| B <<< 16) ||| C <<< 8) ||| D = A * 16777216 + B * 65536 + C * 256 + D := by
  have e1 : A <<< 24 ||| B <<< 16 = (A * 256 + B) <<< 16 := by
    rw [show A <<< 24 = (A <<< 8) <<< 16 by rw [← Nat.shiftLeft_add], ← Nat.shiftLeft_or_distrib, ← Nat.shiftLeft_add_eq_or_of_lt (by omega : B < 2 ^ 8), Nat.shiftLeft_eq A 8]
  have e2 : (A * 256 + B) <<< 16 ||| C <<< 8 = ((A * 256 + B) * 256 + C) <<< 8 := by
    rw [show (A * 256 + B) <<< 16 = ((A * 256 + B) <<< 8) <<< 8 by rw [← Nat.shiftLeft_add], ← Nat.shiftLeft_or_distrib, ← Nat.shiftLeft_add_eq_or_of_lt (by omega : C < 2 ^ 8), Nat.shiftLeft_eq (A * 256 + B) 8]
  rw [e1, e2, ← Nat.shiftLeft_add_eq_or_of_lt (by omega : D < 2 ^ 8), Nat.shiftLeft_eq]
  omega
theorem toNat_shl (x : Byte) (n : Nat) (hn : n ≤ 24) : (x.setWidth 32 <<< n).toNat = x.toNat <<< n := by
  have hx := x.isLt
  rw [BitVec.toNat_shiftLeft, BitVec.toNat_setWidth, Nat.mod_eq_of_lt (by omega : x.toNat < 2 ^ 32)]
  apply Nat.mod_eq_of_lt
  rw [Nat.shiftLeft_eq]
  have h1 : 2 ^ n ≤ 2 ^ 24 := Nat.pow_le_pow_right (by omega) hn
  exact Nat.lt_of_le_of_lt (Nat.mul_le_mul_left _ h1) (by omega)
theorem word4_sum (a b c d : Byte) : a.setWidth 32 * 16777216#32 + b.setWidth 32 * 65536#32 + c.setWidth 32 * 256#32 + d.setWidth 32 = word4 a b c d := by
  have ha := a.isLt
  have hb := b.isLt
  have hc := c.isLt
  have hd := d.isLt
  apply BitVec.eq_of_toNat_eq
  unfold word4
  rw [BitVec.toNat_or, BitVec.toNat_or, BitVec.toNat_or, toNat_shl a 24 (by omega), toNat_shl b 16 (by omega), toNat_shl c 8 (by omega), BitVec.toNat_setWidth, Nat.mod_eq_of_lt (by omega : d.toNat < 2 ^ 32), nat4 _ _ _ _ hb hc hd]
  rw [BitVec.toNat_add, BitVec.toNat_add, BitVec.toNat_add, BitVec.toNat_mul, BitVec.toNat_mul, BitVec.toNat_mul, BitVec.toNat_setWidth, BitVec.toNat_setWidth, BitVec.toNat_setWidth, BitVec.toNat_setWidth, BitVec.toNat_ofNat, BitVec.toNat_ofNat, BitVec.toNat_ofNat]
  omega
end Go.Proofs.YtpgckbjcacagdaaDoor
