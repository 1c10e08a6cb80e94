/- The size of a product and of a quotient; products and quotients. -/
import Derived.Test.YtdfobaggdeoggaaProd
import Derived.Test.YtdfobaggdeoggaaMem
namespace Go.Proofs.Ytdfobaggdeoggaa
open Go.RowKit
set_option maxRecDepth 100000 in
set_option maxHeartbeats 1000000 in
theorem productSize_any (a b : Nat) (ha : a ≤ 9223372036854775808) (hb : b ≤ 9223372036854775808) (w : World) : Calls Try.prog 35 #[.int .u64 (a : Int), .int .u64 (b : Int)] w fun e w' => e = .returned (Rd (a * b / 4294967296) (decide (a * b % 4294967296 ≠ 0))) ∧ Below w.heap.size w w' := by
  have h40 := fun W => multiply_any a b (by omega) (by omega) W
  obtain ⟨X, hX⟩ : ∃ X, a * b = X := ⟨_, rfl⟩
  simp only [hX] at h40 ⊢
  clear hX
  obtain ⟨H, hH⟩ : ∃ H, X / 18446744073709551616 = H := ⟨_, rfl⟩
  obtain ⟨L, hL⟩ : ∃ L, X % 18446744073709551616 = L := ⟨_, rfl⟩
  simp only [hH, hL] at h40
  have H40 : Hid (∀ W, Calls Try.prog 40 #[.int .u64 (a : Int), .int .u64 (b : Int)] W fun e w' => e = .returned (.tuple #[.int .u64 (H : Int), .int .u64 (L : Int)]) ∧ w' = W) := h40
  clear h40
  have hL2 : L < 18446744073709551616 := by omega
  by_cases hbig : 2147483648 ≤ H
  · have HV : Hid (Rd (X / 4294967296) (decide (X % 4294967296 ≠ 0)) = .agg #[.int .u64 9223372036854775808, .bool false]) := by
      show _ = _
      have h : 9223372036854775808 ≤ X / 4294967296 := by omega
      unfold Rd cutQ cutM; rw [if_pos h, if_pos h]; rfl
    generalize Rd (X / 4294967296) (decide (X % 4294967296 ≠ 0)) = V at *
    have hb2 : (2147483648 ≤ (H : Int)) = True := by simp; omega
    clear hH hL ha hb hbig
    go_enter Try.func35, Try.ntmps35
    go_wp2_with (go_at_call 40; refine Calls.mono (H40.out _) ?_; rintro e w2 ⟨rfl, rfl⟩)
    exact bodyPost_ret (results_array Try.results35 rfl (Blk.new w [.int .u64 9223372036854775808, .bool false] 45) Try.underlying45 rfl rfl) rfl ⟨by rw [HV.out], (Below.refl _ _).alloc (Nat.le_refl _) _⟩
  · have HV : Hid (Rd (X / 4294967296) (decide (X % 4294967296 ≠ 0)) = .agg #[.int .u64 ((X / 4294967296 : Nat) : Int), .bool (decide (X % 4294967296 ≠ 0))]) := by
      show _ = _
      have h : ¬ 9223372036854775808 ≤ X / 4294967296 := by omega
      unfold Rd cutQ cutM; rw [if_neg h, if_neg h]
    generalize Rd (X / 4294967296) (decide (X % 4294967296 ≠ 0)) = V at *
    have hb2 : (2147483648 ≤ (H : Int)) = False := by simp; omega
    have b0 : (L : Int) / 4294967296 = ((L / 4294967296 : Nat) : Int) := by omega
    have b1 : bits .or .u64 ((H : Int) * 4294967296) ((L / 4294967296 : Nat) : Int) = ((X / 4294967296 : Nat) : Int) := by
      rw [or_low _ _ (by omega) (by omega)]; omega
    have b2 : (L : Int) % 4294967296 = ((X % 4294967296 : Nat) : Int) := by omega
    have hH2 : H < 2147483648 := by omega
    generalize X / 4294967296 = Q at *
    generalize X % 4294967296 = R at *
    generalize L / 4294967296 = K at *
    clear hH hL ha hb hbig
    go_enter Try.func35, Try.ntmps35
    go_wp2_with (go_at_call 40; refine Calls.mono (H40.out _) ?_; rintro e w2 ⟨rfl, rfl⟩)
    refine bodyPost_ret (results_array Try.results35 rfl (Blk.new w [.int .u64 (Q : Int), .bool ((R : Int) != 0)] 45) Try.underlying45 rfl rfl) rfl ⟨?_, (Below.refl _ _).alloc (Nat.le_refl _) _⟩
    rw [HV.out, show ((R : Int) != 0) = decide (R ≠ 0) by rw [Bool.eq_iff_iff]; simp]
theorem or_one (x : Nat) (hs : 2 * x + 1 < 18446744073709551616) : bits .or .u64 (2 * (x : Int)) 1 = ((2 * x + 1 : Nat) : Int) := by
  have e1 : (BitVec.ofInt 64 (2 * (x : Int))) = BitVec.ofNat 64 (2 * x) := by apply BitVec.eq_of_toNat_eq; rw [BitVec.toNat_ofInt, BitVec.toNat_ofNat]; omega
  have e2 : (BitVec.ofInt 64 1) = BitVec.ofNat 64 1 := rfl
  have e3 : (BitVec.ofNat 64 (2 * x) ||| BitVec.ofNat 64 1).toNat = 2 * x + 1 := by
    rw [BitVec.toNat_or, BitVec.toNat_ofNat, BitVec.toNat_ofNat, Nat.mod_eq_of_lt (by omega), Nat.mod_eq_of_lt (by omega)]
    have h := Nat.two_pow_add_eq_or_of_lt (i := 1) (b := 1) (by omega) x
    rw [show (2 : Nat) ^ 1 = 2 by decide] at h
    exact h.symm
  show IntKind.u64.wrap (((BitVec.ofInt 64 (2 * (x : Int))) ||| (BitVec.ofInt 64 1)).toNat : Int) = _
  rw [e1, e2, e3]
  exact wrap_u64 _ hs
/-- A round of the quotient: x of b and y are a times 2^i. -/
def QuAt (a b x y i : Nat) : Prop := x * b + y = a * 2 ^ i ∧ y < b ∧ x < 2147483648 * 2 ^ i
theorem QuAt.fit {a b x y i : Nat} (h : QuAt a b x y i) (hi : i ≤ 32) : x < 9223372036854775808 := by
  have h1 := h.2.2
  have h2 : 2 ^ i ≤ 2 ^ 32 := Nat.pow_le_pow_right (by omega) hi
  have h3 := Nat.mul_le_mul_left 2147483648 h2
  omega
theorem QuAt.up1 {a b x y i : Nat} (h : QuAt a b x y i) (hy : b ≤ 2 * y) : QuAt a b (2 * x + 1) (2 * y - b) (i + 1) := by
  obtain ⟨h1, h2, h3⟩ := h
  refine ⟨?_, by omega, by rw [Nat.pow_succ]; omega⟩
  rw [Nat.pow_succ, ← Nat.mul_assoc, ← h1, Nat.add_mul, Nat.mul_assoc, Nat.one_mul]
  omega
theorem QuAt.up0 {a b x y i : Nat} (h : QuAt a b x y i) (hy : ¬ b ≤ 2 * y) : QuAt a b (2 * x) (2 * y) (i + 1) := by
  obtain ⟨h1, h2, h3⟩ := h
  refine ⟨?_, by omega, by rw [Nat.pow_succ]; omega⟩
  rw [Nat.pow_succ, ← Nat.mul_assoc, ← h1, Nat.mul_assoc]
  omega
theorem QuAt.done {a b x y : Nat} (h : QuAt a b x y 32) : a * 4294967296 / b = x ∧ a * 4294967296 % b = y := by
  obtain ⟨h1, h2, _⟩ := h
  rw [show (2 : Nat) ^ 32 = 4294967296 by decide] at h1
  rw [← h1, Nat.mul_comm x b]
  refine ⟨?_, ?_⟩
  · rw [Nat.mul_add_div (by omega), Nat.div_eq_of_lt h2, Nat.add_zero]
  · rw [Nat.mul_add_mod, Nat.mod_eq_of_lt h2]
set_option maxRecDepth 100000 in
set_option maxHeartbeats 1000000 in
theorem quotientSize_any (a b : Nat) (ha : a ≤ 9223372036854775808) (hb : b ≤ 9223372036854775808) (hb0 : 0 < b) (w : World) : Calls Try.prog 31 #[.int .u64 (a : Int), .int .u64 (b : Int)] w fun e w' => e = .returned (Rd (a * 4294967296 / b) (decide (a * 4294967296 % b ≠ 0))) ∧ Below w.heap.size w w' := by
  have hq : (a : Int) / (b : Int) = ((a / b : Nat) : Int) := by simp
  have hr : (a : Int) % (b : Int) = ((a % b : Nat) : Int) := by simp
  have hbi : (b : Int) ≠ 0 := by omega
  have hq2 : a / b ≤ a := Nat.div_le_self _ _
  have hr2 : a % b < b := Nat.mod_lt _ hb0
  have hdm := Nat.div_add_mod a b
  obtain ⟨q, hqe⟩ : ∃ q, a / b = q := ⟨_, rfl⟩
  obtain ⟨r, hre⟩ : ∃ r, a % b = r := ⟨_, rfl⟩
  rw [hqe] at hq hq2 hdm
  rw [hre] at hr hr2 hdm
  by_cases hbig : 2147483648 ≤ q
  · have HV : Hid (Rd (a * 4294967296 / b) (decide (a * 4294967296 % b ≠ 0)) = .agg #[.int .u64 9223372036854775808, .bool false]) := by
      show _ = _
      have h : 9223372036854775808 ≤ a * 4294967296 / b := by
        rw [Nat.le_div_iff_mul_le hb0]
        have h1 := Nat.mul_le_mul_left b hbig
        omega
      unfold Rd cutQ cutM; rw [if_pos h, if_pos h]; rfl
    generalize Rd (a * 4294967296 / b) (decide (a * 4294967296 % b ≠ 0)) = V at *
    have hb2 : (2147483648 ≤ (q : Int)) = True := by simp; omega
    clear hdm hqe hre hbig
    go_enter Try.func31, Try.ntmps31
    go_wp2
    go_region
    go_wp2
    refine bodyPost_ret (results_array (l := [.int .u64 9223372036854775808, .bool false]) (t := 45) (b := w.heap.size) Try.results31 rfl ?_ Try.underlying45 rfl rfl) rfl ⟨by rw [HV.out], ?_⟩
    · exact (Blk.new _ _ _).drew
    · exact ((Below.refl _ _).alloc (Nat.le_refl _) _).drew
  · have HV : Hid (∀ x y, QuAt a b x y 32 → Rd (a * 4294967296 / b) (decide (a * 4294967296 % b ≠ 0)) = .agg #[.int .u64 (x : Int), .bool ((y : Int) != 0)]) := fun x y h => by
      obtain ⟨h1, h2⟩ := h.done
      rw [h1, h2]
      have h3 := h.fit (by omega)
      unfold Rd cutQ cutM; rw [if_neg (by omega), if_neg (by omega)]
      rw [show ((y : Int) != 0) = decide (y ≠ 0) by rw [Bool.eq_iff_iff]; simp]
    have H0 : Hid (QuAt a b q r 0) := ⟨by rw [Nat.pow_zero, Nat.mul_one, Nat.mul_comm]; exact hdm, hr2, by rw [Nat.pow_zero]; omega⟩
    generalize Rd (a * 4294967296 / b) (decide (a * 4294967296 % b ≠ 0)) = V at *
    have hb2 : (2147483648 ≤ (q : Int)) = False := by simp; omega
    clear hdm hqe hre hbig
    go_enter Try.func31, Try.ntmps31
    go_wp2
    go_region
    go_wp2
    go_loopw [5, 6, 16] (fun xv yv iv wr => ∃ x y i : Nat, xv = .int .u64 (x : Int) ∧ yv = .int .u64 (y : Int) ∧ iv = .int .i64 (i : Int) ∧ wr = (w.alloc (Obj.cells #[Value.int IntKind.u64 0, Value.bool false] 45)).drew ∧ i ≤ 32 ∧ y < b ∧ Hid (QuAt a b x y i)) (fun _ _ iv _ => 32 - natOf iv)
    case atStart => exact ⟨q, r, 0, rfl, by rw [hr], rfl, rfl, by omega, hr2, H0⟩
    case round =>
      obtain ⟨x, y, i, rfl, rfl, rfl, rfl, hi, hy, HQ⟩ := hrel
      have hx := HQ.out.fit hi
      clear hq hr hq2 hr2 H0 hb2
      by_cases h32 : i = 32
      · subst h32
        go_wp2
        refine bodyPost_ret (results_array (l := [.int .u64 (x : Int), .bool ((y : Int) != 0)]) (t := 45) (b := w.heap.size) Try.results31 rfl ?_ Try.underlying45 rfl rfl) rfl ⟨by rw [HV.out _ _ HQ.out], ?_⟩
        · exact (Blk.new _ _ _).drew
        · exact ((Below.refl _ _).alloc (Nat.le_refl _) _).drew
      · have b1 := or_one x (by omega)
        have b0 : IntKind.u64.wrap ((x : Int) * 2) = 2 * (x : Int) := by rw [IntKind.wrap_u64]; omega
        have b3 : IntKind.u64.wrap ((y : Int) * 2) = 2 * (y : Int) := by rw [IntKind.wrap_u64]; omega
        by_cases hyb : b ≤ 2 * y
        · have HN := hid (HQ.out.up1 hyb)
          have c1 : ((b : Int) ≤ 2 * (y : Int)) = True := by simp; omega
          have c2 : IntKind.u64.wrap (2 * (y : Int) - (b : Int)) = ((2 * y - b : Nat) : Int) := by rw [IntKind.wrap_u64]; omega
          clear HQ
          go_wp2
          exact ⟨⟨2 * x + 1, 2 * y - b, i + 1, by simp, rfl, by simp, trivial, by omega, by omega, HN⟩, by simp only [natOf]; omega⟩
        · have HN := hid (HQ.out.up0 hyb)
          have c1 : ((b : Int) ≤ 2 * (y : Int)) = False := by simp; omega
          clear HQ
          go_wp2
          exact ⟨⟨2 * x, 2 * y, i + 1, by simp, by simp, by simp, trivial, by omega, by omega, HN⟩, by simp only [natOf]; omega⟩
/-- The product, and the quotient, of what both are worth. -/
def mulV (a b : Int) : Int := heldV (a.natAbs * b.natAbs / 4294967296) (decide (a < 0) != decide (b < 0)) (decide (a.natAbs * b.natAbs % 4294967296 ≠ 0))
def divV (a b : Int) : Int := if b = 0 then 0 else heldV (a.natAbs * 4294967296 / b.natAbs) (decide (a < 0) != decide (b < 0)) (decide (a.natAbs * 4294967296 % b.natAbs ≠ 0))
def divE (b : Int) : Int := if b = 0 then 2 else 0
theorem natAbs_le {a : Int} (h : I64 a) : a.natAbs ≤ 9223372036854775808 := by obtain ⟨h1, h2⟩ := h; omega
set_option maxRecDepth 100000 in
set_option maxHeartbeats 1000000 in
theorem mul_any (a b : Int) (ha : I64 a) (hb : I64 b) (w : World) : Calls Try.prog 20 #[.int .i64 a, .int .i64 b] w fun e w' => OutI w (mulV a b) e w' := by
  have h1 := hid (fun W => size_any a ha W)
  have h2 := hid (fun W => size_any b hb W)
  have h3 := hid (fun W => productSize_any _ _ (natAbs_le ha) (natAbs_le hb) W)
  have h4 := hid (fun W => unlike_any a b W)
  have h5 := hid (fun W => withSign_any (a.natAbs * b.natAbs / 4294967296) (decide (a.natAbs * b.natAbs % 4294967296 ≠ 0)) (decide (a < 0) != decide (b < 0)) W)
  have HV : Hid (heldV (a.natAbs * b.natAbs / 4294967296) (decide (a < 0) != decide (b < 0)) (decide (a.natAbs * b.natAbs % 4294967296 ≠ 0)) = mulV a b) := rfl
  generalize Rd (a.natAbs * b.natAbs / 4294967296) (decide (a.natAbs * b.natAbs % 4294967296 ≠ 0)) = V at *
  generalize heldV (a.natAbs * b.natAbs / 4294967296) (decide (a < 0) != decide (b < 0)) (decide (a.natAbs * b.natAbs % 4294967296 ≠ 0)) = R at *
  generalize a.natAbs = A at *
  generalize b.natAbs = B at *
  generalize (decide (a < 0) != decide (b < 0)) = S at *
  go_enter Try.func20, Try.ntmps20
  go_wp2_with fail
  refine Calls.mono (h1.out _) ?_
  rintro e w1 ⟨rfl, rfl⟩
  go_wp2_with fail
  refine Calls.mono (h2.out _) ?_
  rintro e w1 ⟨rfl, rfl⟩
  go_wp2_with fail
  refine Calls.mono (h3.out _) ?_
  rintro e w2 ⟨rfl, hb2⟩
  go_wp2_with fail
  refine Calls.mono (h4.out _) ?_
  rintro e w1 ⟨rfl, rfl⟩
  go_wp2_with fail
  refine Calls.mono (h5.out _) ?_
  rintro e w3 ⟨rfl, hb3⟩
  go_wp2_with fail
  go_ret
  refine ⟨?_, hb2.trans (hb3.mono hb2.size)⟩
  rw [← HV.out]; rfl
set_option maxRecDepth 100000 in
set_option maxHeartbeats 1000000 in
theorem div_any (a b : Int) (ha : I64 a) (hb : I64 b) (w : World) : Calls Try.prog 18 #[.int .i64 a, .int .i64 b] w fun e w' => e = .returned (.tuple #[.int .i64 (divV a b), .int .i64 (divE b)]) ∧ Below w.heap.size w w' := by
  by_cases h0 : b = 0
  · subst h0
    have e1 : divV a 0 = 0 := rfl
    have e2 : divE 0 = 2 := rfl
    rw [e1, e2]
    go_enter Try.func18, Try.ntmps18
    go_wp2_with fail
    go_ret2
    exact ⟨rfl, Below.refl _ _⟩
  · have h1 := hid (fun W => size_any a ha W)
    have h2 := hid (fun W => size_any b hb W)
    have h3 := hid (fun W => quotientSize_any _ _ (natAbs_le ha) (natAbs_le hb) (by omega) W)
    have h4 := hid (fun W => unlike_any a b W)
    have h5 := hid (fun W => withSign_any (a.natAbs * 4294967296 / b.natAbs) (decide (a.natAbs * 4294967296 % b.natAbs ≠ 0)) (decide (a < 0) != decide (b < 0)) W)
    have HV : Hid (heldV (a.natAbs * 4294967296 / b.natAbs) (decide (a < 0) != decide (b < 0)) (decide (a.natAbs * 4294967296 % b.natAbs ≠ 0)) = divV a b ∧ divE b = 0) := by
      unfold divV divE; rw [if_neg h0, if_neg h0]; exact ⟨rfl, rfl⟩
    generalize Rd (a.natAbs * 4294967296 / b.natAbs) (decide (a.natAbs * 4294967296 % b.natAbs ≠ 0)) = V at *
    generalize heldV (a.natAbs * 4294967296 / b.natAbs) (decide (a < 0) != decide (b < 0)) (decide (a.natAbs * 4294967296 % b.natAbs ≠ 0)) = R at *
    generalize a.natAbs = A at *
    generalize b.natAbs = B at *
    generalize (decide (a < 0) != decide (b < 0)) = S at *
    rw [← HV.out.1, HV.out.2]
    have hbz : (b == 0) = false := by simp [h0]
    go_enter Try.func18, Try.ntmps18
    go_wp2_with fail
    refine Calls.mono (h1.out _) ?_
    rintro e w1 ⟨rfl, rfl⟩
    go_wp2_with fail
    refine Calls.mono (h2.out _) ?_
    rintro e w1 ⟨rfl, rfl⟩
    go_wp2_with fail
    refine Calls.mono (h3.out _) ?_
    rintro e w2 ⟨rfl, hb2⟩
    go_wp2_with fail
    refine Calls.mono (h4.out _) ?_
    rintro e w1 ⟨rfl, rfl⟩
    go_wp2_with fail
    refine Calls.mono (h5.out _) ?_
    rintro e w3 ⟨rfl, hb3⟩
    go_wp2_with fail
    go_ret2
    exact ⟨rfl, hb2.trans (hb3.mono hb2.size)⟩
end Go.Proofs.Ytdfobaggdeoggaa
