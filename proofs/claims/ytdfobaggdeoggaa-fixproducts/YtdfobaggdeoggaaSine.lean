/- Sines. -/
import Derived.Test.YtdfobaggdeoggaaBase
namespace Go.Proofs.Ytdfobaggdeoggaa
open Go.RowKit
theorem and1023 (n : Int) : bits .and .i64 n 1023 = n % 1024 := by
  have e2 : (BitVec.ofInt 64 1023) = 1023#64 := rfl
  have e3 : ((BitVec.ofInt 64 n) &&& 1023#64).toNat = (n % 18446744073709551616).toNat % 1024 := by
    rw [BitVec.toNat_and, BitVec.toNat_ofInt]
    exact Nat.and_two_pow_sub_one_eq_mod _ 10
  show IntKind.i64.wrap (((BitVec.ofInt 64 n) &&& (BitVec.ofInt 64 1023)).toNat : Int) = _
  rw [e2, e3, IntKind.wrap_i64]
  omega
/-- A half turn's sine. -/
def sinH (h : Int) : Int := 16 * (h * (512 - h)) * 4294967296 / (1310720 - 4 * (h * (512 - h)))
def sinV (n : Int) : Int := if 512 ≤ n % 1024 then -sinH (n % 1024 % 512) else sinH (n % 1024 % 512)
theorem sin_p {h : Int} (h1 : 0 ≤ h) (h2 : h < 512) : 0 ≤ h * (512 - h) ∧ h * (512 - h) ≤ 65536 := by
  refine ⟨Int.mul_nonneg h1 (by omega), ?_⟩
  have : 0 ≤ (h - 256) * (h - 256) := by
    rcases Int.le_total 256 h with h | h
    · exact Int.mul_nonneg (by omega) (by omega)
    · exact Int.mul_nonneg_of_nonpos_of_nonpos (by omega) (by omega)
  have e1 : (h - 256) * (h - 256) = h * h - 512 * h + 65536 := by simp [Int.sub_mul, Int.mul_sub]; omega
  have e2 : h * (512 - h) = 512 * h - h * h := by simp [Int.mul_sub]; omega
  omega
theorem sin_in {h : Int} (h1 : 0 ≤ h) (h2 : h < 512) : 0 ≤ sinH h ∧ sinH h ≤ 4294967296 := by
  obtain ⟨p1, p2⟩ := sin_p h1 h2
  unfold sinH
  generalize h * (512 - h) = p at p1 p2
  refine ⟨Int.ediv_nonneg (by omega) (by omega), ?_⟩
  apply Int.ediv_le_of_le_mul (by omega)
  omega
theorem sin_names (n : Int) : ∃ r h p b : Int, n % 1024 = r ∧ r % 512 = h ∧ 0 ≤ r ∧ r < 1024 ∧ 0 ≤ h ∧ h < 512 ∧ h * (512 - h) = p ∧ 0 ≤ p ∧ p ≤ 65536 ∧ 1310720 - 4 * p = b ∧ sinH h = 16 * p * 4294967296 / b ∧ sinV n = (if 512 ≤ r then -sinH h else sinH h) ∧ 0 ≤ sinH h ∧ sinH h ≤ 4294967296 := by
  have h1 : 0 ≤ n % 1024 % 512 := by omega
  have h2 : n % 1024 % 512 < 512 := by omega
  exact ⟨_, _, _, _, rfl, rfl, by omega, by omega, h1, h2, rfl, (sin_p h1 h2).1, (sin_p h1 h2).2, rfl, rfl, rfl, (sin_in h1 h2).1, (sin_in h1 h2).2⟩
set_option maxHeartbeats 1000000 in
theorem sine_any (n : Int) (_ : I64 n) (w : World) : Calls Try.prog 24 #[.int .i64 n] w fun e w' => OutI w (sinV n) e w' := by
  obtain ⟨r, h, p, b, er, eh, r1, r2, h1, h2, ep, p1, p2, eb, es, ev, s1, s2⟩ := sin_names n
  have hb : bits .and .i64 n 1023 = r := by rw [and1023]; exact er
  have hp : IntKind.i64.wrap (h * (512 - h)) = p := by rw [ep, IntKind.wrap_i64]; omega
  have h10 : Hid (Calls Try.prog 10 #[.int .i64 (16 * p)] w fun e w' => OutI w (16 * p * 4294967296) e w') := by
    have h := of_any (16 * p) ⟨by omega, by omega⟩ w
    rw [show hold (16 * p * 4294967296) = 16 * p * 4294967296 by unfold hold; (repeat' split) <;> omega] at h
    exact h
  have hq : (16 * p * 4294967296).tdiv b = sinH h := by rw [tdiv_pos (by omega)]; exact es.symm
  have hb0 : b ≠ 0 := by omega
  have hb1 : 0 < b := by omega
  have hb2 : b ≤ 1310720 := by omega
  clear er ep es
  have HV : Hid (sinV n = _) := ev
  clear ev
  generalize sinH h = s at *
  go_enter Try.func24, Try.ntmps24
  go_wp2_with (go_at_call 10; refine Calls.mono h10.out ?_; rintro e w2 ⟨rfl, hbw⟩)
  · go_ret; refine ⟨?_, hbw⟩; rw [HV.out, if_pos (by omega)]; rfl
  · go_ret; refine ⟨?_, hbw⟩; rw [HV.out, if_neg (by omega)]; rfl
set_option maxHeartbeats 1000000 in
theorem refSine_any (n : Int) (_ : I64 n) (w : World) : Calls Try.prog 25 #[.int .i64 n] w fun e w' => OutI w (sinV n) e w' := by
  obtain ⟨r, h, p, b, er, eh, r1, r2, h1, h2, ep, p1, p2, eb, es, ev, s1, s2⟩ := sin_names n
  have hp : IntKind.i64.wrap (h * (512 - h)) = p := by rw [ep, IntKind.wrap_i64]; omega
  have hq : (16 * p * 4294967296).tdiv b = sinH h := by rw [tdiv_pos (by omega)]; exact es.symm
  have hb0 : b ≠ 0 := by omega
  have hb1 : 0 < b := by omega
  have hb2 : b ≤ 1310720 := by omega
  have ht : (n.tmod 1024 = r ∧ 0 ≤ n.tmod 1024) ∨ (n.tmod 1024 = r - 1024 ∧ r - 1024 < 0) := by
    rcases Int.lt_or_le n 0 with h0 | h0
    · rw [tmod_below h0]; omega
    · rw [tmod_pos h0]; omega
  clear er ep es
  have HV : Hid (sinV n = _) := ev
  clear ev
  generalize sinH h = s at *
  go_enter Try.func25, Try.ntmps25
  rcases ht with ⟨ht, ht2⟩ | ⟨ht, ht2⟩
  · go_wp2
    · go_ret; refine outI ?_; rw [HV.out, if_pos (by omega)]
    · go_ret; refine outI ?_; rw [HV.out, if_neg (by omega)]
  · go_wp2
    · go_ret; refine outI ?_; rw [HV.out, if_pos (by omega)]
    · go_ret; refine outI ?_; rw [HV.out, if_neg (by omega)]
end Go.Proofs.Ytdfobaggdeoggaa
