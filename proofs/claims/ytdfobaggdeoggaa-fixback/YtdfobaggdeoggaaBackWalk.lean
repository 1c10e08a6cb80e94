/- The law of the way back. -/
import Derived.Test.YtdfobaggdeoggaaOrderWalk
namespace Go.Proofs.Ytdfobaggdeoggaa
open Go.RowKit
theorem mul_bound {x y : Int} (hx : -30000 < x ∧ x < 30000) (hy : -30000 < y ∧ y < 30000) : -900000000 ≤ x * y ∧ x * y ≤ 900000000 := by
  have h : (x * y).natAbs ≤ 30000 * 30000 := by rw [Int.natAbs_mul]; exact Nat.mul_le_mul (by omega) (by omega)
  omega
theorem back_mul {x y : Int} (hx : -30000 < x ∧ x < 30000) (hy : -30000 < y ∧ y < 30000) : mulV (x * 4294967296) (y * 4294967296) = x * y * 4294967296 := by
  rw [mulV_eq, show x * 4294967296 * (y * 4294967296) = x * y * 4294967296 * 4294967296 by rw [Int.mul_assoc, Int.mul_left_comm 4294967296 y, ← Int.mul_assoc x y, Int.mul_assoc (x * y)], Int.mul_ediv_cancel _ (by omega)]
  have := mul_bound hx hy
  exact hold_self ⟨by omega, by omega⟩
theorem back_div {x y : Int} (hx : -30000 < x ∧ x < 30000) (_ : -30000 < y ∧ y < 30000) (h0 : y ≠ 0) : divV (x * y * 4294967296) (y * 4294967296) = x * 4294967296 := by
  have e1 : (x * y * 4294967296).natAbs * 4294967296 = (y * 4294967296).natAbs * (x.natAbs * 4294967296) := by
    simp only [Int.natAbs_mul]
    rw [show (4294967296 : Int).natAbs = 4294967296 from rfl]
    rw [Nat.mul_comm x.natAbs y.natAbs, Nat.mul_assoc y.natAbs, Nat.mul_assoc y.natAbs, Nat.mul_assoc y.natAbs, ← Nat.mul_assoc 4294967296, Nat.mul_comm 4294967296 x.natAbs]
  have hy0 : 0 < (y * 4294967296).natAbs := by omega
  unfold divV
  rw [if_neg (by omega), e1, Nat.mul_div_cancel_left _ hy0, Nat.mul_mod_right]
  unfold heldV
  rcases Int.lt_trichotomy x 0 with h | h | h
  · have hs : (decide (x * y * 4294967296 < 0) != decide (y * 4294967296 < 0)) = true := by
      rcases Int.lt_or_gt_of_ne h0 with k | k
      · have := Int.mul_pos_of_neg_of_neg h k
        rw [decide_eq_false (by omega), decide_eq_true (by omega)]; rfl
      · have := Int.mul_neg_of_neg_of_pos h k
        rw [decide_eq_true (by omega), decide_eq_false (by omega)]; rfl
    rw [hs, if_pos rfl, if_neg (by simp)]
    rw [show (-((x.natAbs * 4294967296 : Nat) : Int) - 0) = x * 4294967296 by omega]
    exact hold_self ⟨by omega, by omega⟩
  · subst h
    simp [hold]
  · have hs : (decide (x * y * 4294967296 < 0) != decide (y * 4294967296 < 0)) = false := by
      rcases Int.lt_or_gt_of_ne h0 with k | k
      · have := Int.mul_neg_of_pos_of_neg h k
        rw [decide_eq_true (by omega), decide_eq_true (by omega)]; rfl
      · have := Int.mul_pos h k
        rw [decide_eq_false (by omega), decide_eq_false (by omega)]; rfl
    rw [hs, if_neg (by simp)]
    rw [show ((x.natAbs * 4294967296 : Nat) : Int) = x * 4294967296 by omega]
    exact hold_self ⟨by omega, by omega⟩
theorem tmod_in (a : Int) : -30000 < a.tmod 30000 ∧ a.tmod 30000 < 30000 := by
  rcases Int.lt_or_le a 0 with h | h
  · rw [tmod_below h]; omega
  · rw [tmod_pos h]; omega
set_option maxRecDepth 100000 in
set_option maxHeartbeats 2000000 in
theorem back_walk (a b : Int) (ha : -2147483648 ≤ a ∧ a ≤ 2147483647) (hb : -2147483648 ≤ b ∧ b ≤ 2147483647) (w : World) : Calls Try.prog 8 #[.int .i32 a, .int .i32 b] w fun e w' => OutT w e w' := by
  have h9 : Hid (∀ W, Calls Try.prog 9 #[] W fun e w' => OutT W e w') := awake_any
  have hx := tmod_in a
  have hy := tmod_in b
  obtain ⟨x, ex⟩ : ∃ x, a.tmod 30000 = x := ⟨_, rfl⟩
  obtain ⟨y, ey⟩ : ∃ y, b.tmod 30000 = y := ⟨_, rfl⟩
  rw [ex] at hx
  rw [ey] at hy
  obtain ⟨ha1, ha2⟩ := ha
  obtain ⟨hb1, hb2⟩ := hb
  have wa : IntKind.i64.wrap a = a := by rw [IntKind.wrap_i64]; omega
  have wb : IntKind.i64.wrap b = b := by rw [IntKind.wrap_i64]; omega
  obtain ⟨z, ez⟩ : ∃ z, x * y = z := ⟨_, rfl⟩
  have hz := mul_bound hx hy
  rw [ez] at hz
  obtain ⟨X, eX⟩ : ∃ X, x * 4294967296 = X := ⟨_, rfl⟩
  obtain ⟨Y, eY⟩ : ∃ Y, y * 4294967296 = Y := ⟨_, rfl⟩
  obtain ⟨Z, eZ⟩ : ∃ Z, z * 4294967296 = Z := ⟨_, rfl⟩
  have wz : IntKind.i64.wrap (x * y) = z := by rw [ez, IntKind.wrap_i64]; omega
  have iX : I64 X := ⟨by omega, by omega⟩
  have iY : I64 Y := ⟨by omega, by omega⟩
  have iZ : I64 Z := ⟨by omega, by omega⟩
  have kx := eqOut (y := X) (by rw [eX]; exact hold_self iX) (of_any x ⟨by omega, by omega⟩)
  have ky := eqOut (y := Y) (by rw [eY]; exact hold_self iY) (of_any y ⟨by omega, by omega⟩)
  have kz := eqOut (y := Z) (by rw [eZ]; exact hold_self iZ) (of_any z ⟨by omega, by omega⟩)
  have km := eqOut (y := Z) (by rw [← eX, ← eY, back_mul hx hy, ez, eZ]) (mul_any X Y iX iY)
  have kf := eqOut (y := z) (by omega) (floor_any Z iZ)
  have HB : Hid (Below w.heap.size w w) := Below.refl _ _
  by_cases h0 : y = 0
  · have kd : Hid (∀ W, Calls Try.prog 18 #[.int .i64 X, .int .i64 0] W fun e w' => e = .returned (.tuple #[.int .i64 0, .int .i64 2]) ∧ Below W.heap.size W w') := fun W => div_any X 0 iX ⟨by omega, by omega⟩ W
    have hy0 : (y == 0) = true := by simp [h0]
    clear h0 hx hy hz ez eX eY eZ iX iY iZ
    go_enter Try.func8, Try.ntmps8
    go_wp2_with (first
      | (go_at_call 9; (first | (with_reducible refine Calls.mono (h9.out _) ?_)); rintro e w1 ⟨rfl, hbz⟩; replace HB := hid (HB.out.trans (hbz.mono HB.out.size)); clear hbz)
      | (go_at_call 10; (first | (with_reducible refine Calls.mono (kx.out _) ?_) | (with_reducible refine Calls.mono (ky.out _) ?_) | (with_reducible refine Calls.mono (kz.out _) ?_)); rintro e w1 ⟨rfl, hbz⟩; replace HB := hid (HB.out.trans (hbz.mono HB.out.size)); clear hbz)
      | (go_at_call 20; (first | (with_reducible refine Calls.mono (km.out _) ?_)); rintro e w1 ⟨rfl, hbz⟩; replace HB := hid (HB.out.trans (hbz.mono HB.out.size)); clear hbz)
      | (go_at_call 18; (first | (with_reducible refine Calls.mono (kd.out _) ?_)); rintro e w1 ⟨rfl, hbz⟩; replace HB := hid (HB.out.trans (hbz.mono HB.out.size)); clear hbz)
      | (go_at_call 12; (first | (with_reducible refine Calls.mono (kf.out _) ?_)); rintro e w1 ⟨rfl, hbz⟩; replace HB := hid (HB.out.trans (hbz.mono HB.out.size)); clear hbz))
    go_ret
    exact ⟨rfl, HB.out⟩
  · have kd : Hid (∀ W, Calls Try.prog 18 #[.int .i64 Z, .int .i64 Y] W fun e w' => e = .returned (.tuple #[.int .i64 X, .int .i64 0]) ∧ Below W.heap.size W w') := fun W => by
      have h := div_any Z Y iZ iY W
      rw [show divV Z Y = X by rw [← eZ, ← ez, ← eY, back_div hx hy h0]; exact eX, show divE Y = 0 by unfold divE; rw [if_neg (by omega)]] at h
      exact h
    have hy0 : (y == 0) = false := by simp [h0]
    clear h0 hx hy hz ez eX eY eZ iX iY iZ
    go_enter Try.func8, Try.ntmps8
    go_wp2_with (first
      | (go_at_call 9; (first | (with_reducible refine Calls.mono (h9.out _) ?_)); rintro e w1 ⟨rfl, hbz⟩; replace HB := hid (HB.out.trans (hbz.mono HB.out.size)); clear hbz)
      | (go_at_call 10; (first | (with_reducible refine Calls.mono (kx.out _) ?_) | (with_reducible refine Calls.mono (ky.out _) ?_) | (with_reducible refine Calls.mono (kz.out _) ?_)); rintro e w1 ⟨rfl, hbz⟩; replace HB := hid (HB.out.trans (hbz.mono HB.out.size)); clear hbz)
      | (go_at_call 20; (first | (with_reducible refine Calls.mono (km.out _) ?_)); rintro e w1 ⟨rfl, hbz⟩; replace HB := hid (HB.out.trans (hbz.mono HB.out.size)); clear hbz)
      | (go_at_call 18; (first | (with_reducible refine Calls.mono (kd.out _) ?_)); rintro e w1 ⟨rfl, hbz⟩; replace HB := hid (HB.out.trans (hbz.mono HB.out.size)); clear hbz)
      | (go_at_call 12; (first | (with_reducible refine Calls.mono (kf.out _) ?_)); rintro e w1 ⟨rfl, hbz⟩; replace HB := hid (HB.out.trans (hbz.mono HB.out.size)); clear hbz))
    go_ret
    exact ⟨rfl, HB.out⟩
end Go.Proofs.Ytdfobaggdeoggaa
