/- Numbers of 64 bits: shifts, products, the number that follows a seed. -/
import Derived.Test.YtlnbhgpijdjpmaaProg
import Derived.WalkKit
import Derived.Below
import Derived.Deep.MidRow
import Derived.Deep.WholeRow
import Derived.Deep.Draws
import Derived.RegionTactic
import Derived.BigQuiet
import Derived.Deep.QuietTactic
namespace Go.Proofs.Ytlnbhgpijdjpmaa
open Go.RowKit
/-- n, xor n divided by d. -/
def xr (n d : Nat) : Nat := n ^^^ (n / d)
theorem xr_lt {n d : Nat} (h : n < 18446744073709551616) : xr n d < 18446744073709551616 := by
  have : n / d < 2 ^ 64 := Nat.lt_of_le_of_lt (Nat.div_le_self _ _) (by simpa using h)
  have := Nat.xor_lt_two_pow (x := n) (y := n / d) (n := 64) (by simpa using h) this
  simpa [xr] using this
/-- The number of a seed that was moved on. -/
def scat (z : Nat) : Nat := xr (xr (xr z 1073741824 * 13787848793156543929 % 18446744073709551616) 134217728 * 10723151780598845931 % 18446744073709551616) 2147483648
/-- The seed, moved on. -/
def nxt (s : Nat) : Nat := (s + 11400714819323198485) % 18446744073709551616
theorem nxt_lt (s : Nat) : nxt s < 18446744073709551616 := Nat.mod_lt _ (by omega)
theorem scat_lt (z : Nat) : scat z < 18446744073709551616 := xr_lt (Nat.mod_lt _ (by omega))
theorem wrap_u64 (n : Nat) : IntKind.u64.wrap (n : Int) = ((n % 18446744073709551616 : Nat) : Int) := by rw [IntKind.wrap_u64]; omega
theorem wrap_mul (n c : Nat) : IntKind.u64.wrap ((n : Int) * (c : Int)) = ((n * c % 18446744073709551616 : Nat) : Int) := by
  rw [← wrap_u64]; simp
theorem bits_xor (n m : Nat) (hn : n < 18446744073709551616) (hm : m < 18446744073709551616) : bits .xor .u64 (n : Int) (m : Int) = ((n ^^^ m : Nat) : Int) := by
  have e1 : (BitVec.ofInt 64 (n : Int)) = BitVec.ofNat 64 n := by apply BitVec.eq_of_toNat_eq; rw [BitVec.toNat_ofInt, BitVec.toNat_ofNat]; omega
  have e2 : (BitVec.ofInt 64 (m : Int)) = BitVec.ofNat 64 m := by apply BitVec.eq_of_toNat_eq; rw [BitVec.toNat_ofInt, BitVec.toNat_ofNat]; omega
  have e3 : (BitVec.ofNat 64 n ^^^ BitVec.ofNat 64 m).toNat = n ^^^ m := by
    rw [BitVec.toNat_xor, BitVec.toNat_ofNat, BitVec.toNat_ofNat, show (2 : Nat) ^ 64 = 18446744073709551616 by decide, Nat.mod_eq_of_lt hn, Nat.mod_eq_of_lt hm]
  show IntKind.u64.wrap (((BitVec.ofInt 64 (n : Int)) ^^^ (BitVec.ofInt 64 (m : Int))).toNat : Int) = _
  rw [e1, e2, e3, wrap_u64, Nat.mod_eq_of_lt]
  have := Nat.xor_lt_two_pow (x := n) (y := m) (n := 64) (by simpa using hn) (by simpa using hm)
  simpa using this
theorem bits_xr (n d : Nat) (hn : n < 18446744073709551616) : bits .xor .u64 (n : Int) ((n : Int) / (d : Int)) = ((xr n d : Nat) : Int) := by
  have := bits_xor n (n / d) hn (Nat.lt_of_le_of_lt (Nat.div_le_self _ _) hn)
  simpa [xr] using this
theorem scat_steps (z : Nat) (hz : z < 18446744073709551616) : ∃ a b c d : Nat, b < 18446744073709551616 ∧ d < 18446744073709551616 ∧ bits .xor .u64 (z : Int) ((z : Int) / 1073741824) = (a : Int) ∧ IntKind.u64.wrap ((a : Int) * 13787848793156543929) = (b : Int) ∧ bits .xor .u64 (b : Int) ((b : Int) / 134217728) = (c : Int) ∧ IntKind.u64.wrap ((c : Int) * 10723151780598845931) = (d : Int) ∧ bits .xor .u64 (d : Int) ((d : Int) / 2147483648) = (scat z : Int) := by
  have l2 : ∀ n : Nat, n % 18446744073709551616 < 18446744073709551616 := fun n => Nat.mod_lt _ (by omega)
  exact ⟨_, _, _, _, l2 _, l2 _, bits_xr z 1073741824 hz, wrap_mul _ 13787848793156543929, bits_xr _ 134217728 (l2 _), wrap_mul _ 10723151780598845931, bits_xr _ 2147483648 (l2 _)⟩
set_option maxHeartbeats 1000000 in
theorem scatter_any (z : Nat) (hz : z < 18446744073709551616) (w : World) : Calls Try.prog 19 #[.int .u64 (z : Int)] w fun e w' => e = .returned (.int .u64 (scat z : Int)) ∧ w' = w := by
  obtain ⟨a, b, c, d, l2, l4, e1, e2, e3, e4, e5⟩ := scat_steps z hz
  generalize scat z = f at *
  go_enter Try.func19, Try.ntmps19
  go_wp2
  go_ret
  exact ⟨rfl, rfl⟩
def Nx (s : Nat) (e : Ending) : Prop := e = .returned (.tuple #[.int .u64 (scat (nxt s) : Int), .int .u64 (nxt s : Int)])
set_option maxHeartbeats 1000000 in
theorem refNext_any (s : Nat) (w : World) : Calls Try.prog 12 #[.int .u64 (s : Int)] w fun e w' => Nx s e ∧ w' = w := by
  unfold Nx
  have e0 : IntKind.u64.wrap ((s : Int) + 11400714819323198485) = (nxt s : Int) := by rw [IntKind.wrap_u64]; unfold nxt; omega
  have hz := nxt_lt s
  generalize nxt s = z at *
  obtain ⟨a, b, c, d, l2, l4, e1, e2, e3, e4, e5⟩ := scat_steps z hz
  generalize scat z = f at *
  go_enter Try.func12, Try.ntmps12
  go_wp2
  go_ret2
  exact ⟨rfl, rfl⟩
end Go.Proofs.Ytlnbhgpijdjpmaa
