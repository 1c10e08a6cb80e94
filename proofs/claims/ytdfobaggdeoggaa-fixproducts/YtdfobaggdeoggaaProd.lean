/- Sizes and signs, products of two words, quotients bit by bit. -/
import Derived.Test.YtdfobaggdeoggaaRoot
namespace Go.Proofs.Ytdfobaggdeoggaa
open Go.RowKit
/-- A size with a sign, rounded down where something is left, held. -/
def heldV (q : Nat) (below more : Bool) : Int := hold (if below then -(q : Int) - (if more then 1 else 0) else (q : Int))
/-- A size that is cut at 2^63, and whether something is left. -/
def cutQ (q : Nat) : Nat := if 9223372036854775808 ≤ q then 9223372036854775808 else q
def cutM (q : Nat) (more : Bool) : Bool := if 9223372036854775808 ≤ q then false else more
def Rd (q : Nat) (m : Bool) : Value := .agg #[.int .u64 (cutQ q : Int), .bool (cutM q m)]
set_option maxHeartbeats 1000000 in
theorem size_any (n : Int) (hn : I64 n) (w : World) : Calls Try.prog 32 #[.int .i64 n] w fun e w' => e = .returned (.int .u64 (n.natAbs : Int)) ∧ w' = w := by
  obtain ⟨h1, h2⟩ := hn
  have HA : Hid ((n.natAbs : Int) = if n < 0 then -n else n) := by show _ = _; split <;> omega
  generalize n.natAbs = N at *
  rcases Int.lt_or_le n 0 with h0 | h0
  · have b1 : IntKind.u64.wrap n = n + 18446744073709551616 := by rw [IntKind.wrap_u64]; omega
    have b2 : IntKind.u64.wrap (-(n + 18446744073709551616)) = -n := by rw [IntKind.wrap_u64]; omega
    go_enter Try.func32, Try.ntmps32
    go_wp2
    go_ret
    refine ⟨?_, rfl⟩
    rw [HA.out, if_pos h0]; rfl
  · go_enter Try.func32, Try.ntmps32
    go_wp2
    go_ret
    refine ⟨?_, rfl⟩
    rw [HA.out, if_neg (by omega)]; rfl
set_option maxHeartbeats 1000000 in
theorem unlike_any (a b : Int) (w : World) : Calls Try.prog 33 #[.int .i64 a, .int .i64 b] w fun e w' => e = .returned (.bool (decide (a < 0) != decide (b < 0))) ∧ w' = w := by
  go_enter Try.func33, Try.ntmps33
  go_wp2
  go_ret
  exact ⟨rfl, rfl⟩
theorem heldV_big {q : Nat} (m s : Bool) (hq : 9223372036854775808 ≤ q) : heldV q s m = if s then -9223372036854775808 else 9223372036854775807 := by
  unfold heldV hold
  cases s <;> cases m <;> simp <;> (repeat' split) <;> omega
theorem heldV_small {q : Nat} (m s : Bool) (hq : ¬ 9223372036854775808 ≤ q) : heldV q s m = if s then -(q : Int) - (if m then 1 else 0) else (q : Int) := by
  unfold heldV hold
  cases s <;> cases m <;> simp <;> (repeat' split) <;> omega
set_option maxRecDepth 100000 in
set_option maxHeartbeats 1000000 in
theorem withSign_any (q : Nat) (m s : Bool) (w : World) : Calls Try.prog 30 #[Rd q m, .bool s] w fun e w' => OutI w (heldV q s m) e w' := by
  unfold Rd
  obtain ⟨v, hv⟩ : ∃ v, heldV q s m = v := ⟨_, rfl⟩
  rw [hv]
  by_cases hq : 9223372036854775808 ≤ q
  · have HV : Hid (v = if s then -9223372036854775808 else 9223372036854775807) := by rw [← hv]; exact heldV_big m s hq
    simp only [cutQ, cutM, if_pos hq]
    clear hv hq
    cases s
    all_goals (
      go_enter Try.func30, Try.ntmps30
      go_wp2
      go_ret
      refine ⟨?_, (Below.refl _ _).alloc (Nat.le_refl _) _⟩
      rw [HV.out]; rfl)
  · have HV : Hid (v = if s then -(q : Int) - (if m then 1 else 0) else (q : Int)) := by rw [← hv]; exact heldV_small m s hq
    simp only [cutQ, cutM, if_neg hq]
    have hq2 : (9223372036854775808 ≤ (q : Int)) = False := by simp; omega
    have b1 : IntKind.i64.wrap (q : Int) = (q : Int) := by rw [IntKind.wrap_i64]; omega
    have b2 : IntKind.i64.wrap (-(q : Int)) = -(q : Int) := by rw [IntKind.wrap_i64]; omega
    have b3 : IntKind.i64.wrap (-(q : Int) - 1) = -(q : Int) - 1 := by rw [IntKind.wrap_i64]; omega
    clear hv hq
    cases s <;> cases m
    all_goals (
      go_enter Try.func30, Try.ntmps30
      go_wp2
      go_ret
      refine ⟨?_, (Below.refl _ _).alloc (Nat.le_refl _) _⟩
      rw [HV.out]; simp; try rfl)
set_option maxRecDepth 100000 in
/-- x shifted up by 32 bits, or y below it. -/
theorem or_low (x y : Nat) (hy : y < 4294967296) (hs : x * 4294967296 < 18446744073709551616) : bits .or .u64 ((x : Int) * 4294967296) (y : Int) = ((x * 4294967296 + y : Nat) : Int) := by
  have hx : x ≤ 4294967295 := by omega
  clear hs
  have hlt : x * 4294967296 + y < 18446744073709551616 := by omega
  have k1 : x * 4294967296 < 18446744073709551616 := Nat.lt_of_le_of_lt (Nat.le_add_right _ _) hlt
  have k2 : y < 18446744073709551616 := Nat.lt_of_le_of_lt (Nat.le_add_left _ _) hlt
  have e1 : (BitVec.ofInt 64 ((x : Int) * 4294967296)) = BitVec.ofNat 64 (x * 4294967296) := by apply BitVec.eq_of_toNat_eq; rw [BitVec.toNat_ofInt, BitVec.toNat_ofNat]; clear k1 k2 hlt; omega
  have e2 : (BitVec.ofInt 64 (y : Int)) = BitVec.ofNat 64 y := by apply BitVec.eq_of_toNat_eq; rw [BitVec.toNat_ofInt, BitVec.toNat_ofNat]; omega
  have e3 : (BitVec.ofNat 64 (x * 4294967296) ||| BitVec.ofNat 64 y).toNat = x * 4294967296 + y := by
    rw [BitVec.toNat_or, BitVec.toNat_ofNat, BitVec.toNat_ofNat, show (2 : Nat) ^ 64 = 18446744073709551616 by decide, Nat.mod_eq_of_lt k1, Nat.mod_eq_of_lt k2]
    have h := Nat.two_pow_add_eq_or_of_lt (i := 32) (b := y) (by omega) x
    rw [show (2 : Nat) ^ 32 = 4294967296 by decide] at h
    rw [Nat.mul_comm x]
    exact h.symm
  show IntKind.u64.wrap (((BitVec.ofInt 64 ((x : Int) * 4294967296)) ||| (BitVec.ofInt 64 (y : Int))).toNat : Int) = _
  rw [e1, e2, e3]
  exact wrap_u64 _ hlt
theorem mul_fit {x y : Nat} (hx : x < 4294967296) (hy : y < 4294967296) : x * y ≤ 18446744065119617025 := by
  have h := Nat.mul_le_mul (show x ≤ 4294967295 by omega) (show y ≤ 4294967295 by omega)
  omega
theorem mul_parts (a b : Nat) : a * b = (a / 4294967296 * (b / 4294967296)) * 18446744073709551616 + (a / 4294967296 * (b % 4294967296) + a % 4294967296 * (b / 4294967296)) * 4294967296 + a % 4294967296 * (b % 4294967296) := by
  have ha := Nat.div_add_mod a 4294967296
  have hb := Nat.div_add_mod b 4294967296
  generalize a / 4294967296 = p at *
  generalize a % 4294967296 = q at *
  generalize b / 4294967296 = r at *
  generalize b % 4294967296 = s at *
  subst ha hb
  simp only [Nat.add_mul, Nat.mul_add]
  have e1 : 4294967296 * p * (4294967296 * r) = p * r * 18446744073709551616 := by rw [Nat.mul_mul_mul_comm, Nat.mul_comm]
  have e2 : 4294967296 * p * s = p * s * 4294967296 := by rw [Nat.mul_assoc, Nat.mul_comm]
  have e3 : q * (4294967296 * r) = q * r * 4294967296 := by rw [Nat.mul_left_comm, Nat.mul_comm]
  omega
set_option maxRecDepth 100000 in
set_option maxHeartbeats 1000000 in
theorem multiply_any (a b : Nat) (ha : a < 18446744073709551616) (hb : b < 18446744073709551616) (w : World) : Calls Try.prog 40 #[.int .u64 (a : Int), .int .u64 (b : Int)] w fun e w' => e = .returned (.tuple #[.int .u64 ((a * b / 18446744073709551616 : Nat) : Int), .int .u64 ((a * b % 18446744073709551616 : Nat) : Int)]) ∧ w' = w := by
  have hP := mul_parts a b
  have a1 : (a : Int) / 4294967296 = ((a / 4294967296 : Nat) : Int) := by omega
  have a2 : (a : Int) % 4294967296 = ((a % 4294967296 : Nat) : Int) := by omega
  have b1 : (b : Int) / 4294967296 = ((b / 4294967296 : Nat) : Int) := by omega
  have b2 : (b : Int) % 4294967296 = ((b % 4294967296 : Nat) : Int) := by omega
  have l1 : a / 4294967296 < 4294967296 := by omega
  have l2 : a % 4294967296 < 4294967296 := by omega
  have l3 : b / 4294967296 < 4294967296 := by omega
  have l4 : b % 4294967296 < 4294967296 := by omega
  generalize a / 4294967296 = p at *
  generalize a % 4294967296 = q at *
  generalize b / 4294967296 = r at *
  generalize b % 4294967296 = s at *
  have f1 := mul_fit l1 l3
  have f2 := mul_fit l1 l4
  have f3 := mul_fit l2 l3
  have f4 := mul_fit l2 l4
  have c1 : IntKind.u64.wrap ((p : Int) * (r : Int)) = ((p * r : Nat) : Int) := by have := wrap_u64 (p * r) (by omega); simpa using this
  have c2 : IntKind.u64.wrap ((p : Int) * (s : Int)) = ((p * s : Nat) : Int) := by have := wrap_u64 (p * s) (by omega); simpa using this
  have c3 : IntKind.u64.wrap ((q : Int) * (r : Int)) = ((q * r : Nat) : Int) := by have := wrap_u64 (q * r) (by omega); simpa using this
  have c4 : IntKind.u64.wrap ((q : Int) * (s : Int)) = ((q * s : Nat) : Int) := by have := wrap_u64 (q * s) (by omega); simpa using this
  generalize p * r = P4 at *
  generalize p * s = P2 at *
  generalize q * r = P3 at *
  generalize q * s = P1 at *
  generalize a * b = X at *
  obtain ⟨c, hc⟩ : ∃ c, P2 + P1 / 4294967296 = c := ⟨_, rfl⟩
  obtain ⟨m, hm⟩ : ∃ m, P3 + c % 4294967296 = m := ⟨_, rfl⟩
  obtain ⟨H, hH⟩ : ∃ H, X / 18446744073709551616 = H := ⟨_, rfl⟩
  obtain ⟨L, hL⟩ : ∃ L, X % 18446744073709551616 = L := ⟨_, rfl⟩
  have d1 : (P2 : Int) + (P1 : Int) / 4294967296 = (c : Int) := by omega
  have d2 : (P3 : Int) + (c : Int) % 4294967296 = (m : Int) := by omega
  have d3 : (P4 : Int) + (c : Int) / 4294967296 + (m : Int) / 4294967296 = (H : Int) := by omega
  have d4 : IntKind.u64.wrap ((m : Int) * 4294967296) = ((m % 4294967296 : Nat) : Int) * 4294967296 := by rw [IntKind.wrap_u64]; omega
  have d5 : bits .or .u64 (((m % 4294967296 : Nat) : Int) * 4294967296) ((P1 % 4294967296 : Nat) : Int) = (L : Int) := by
    rw [or_low _ _ (by omega) (by omega)]; omega
  have d6 : (P1 : Int) % 4294967296 = ((P1 % 4294967296 : Nat) : Int) := by omega
  have g1 : c < 18446744073709551616 := by omega
  have g2 : m < 18446744073709551616 := by omega
  have g3 : H < 18446744073709551616 := by omega
  rw [hH, hL]
  obtain ⟨M, hM⟩ : ∃ M, m % 4294967296 = M := ⟨_, rfl⟩
  obtain ⟨N, hN⟩ : ∃ N, P1 % 4294967296 = N := ⟨_, rfl⟩
  rw [hM] at d4 d5
  rw [hN] at d5 d6
  clear hP hc hm hH hL hM hN
  go_enter Try.func40, Try.ntmps40
  go_wp2
  go_ret2
  exact ⟨rfl, rfl⟩
end Go.Proofs.Ytdfobaggdeoggaa
