/- Sides, tiles, distances: the small functions. -/
import Derived.Test.YthinldcblbgdnaaDoorMem
import Derived.Deep.RegionWith
import Derived.Deep.DeepCutAuto
namespace Go.Proofs.YthinldcblbgdnaaDoor
open Go.RowKit
/-- A call answers v, and what lay there is as it was. -/
def Out (w : World) (v : Value) (e : Ending) (w' : World) : Prop := e = .returned v ∧ Below w.heap.size w w'
/-- A cell as a value. -/
def C (x y : Int) : Value := .agg #[.int .i64 x, .int .i64 y]
def isSide (n : Int) : Bool := decide (4 ≤ n) && decide (n ≤ 20)
def isTile (t o : Int) : Bool := (t == 0 || t == 1) && o == 0 || t == 2 && decide (0 ≤ o) && decide (o ≤ 1000)
def meas (x y : Int) : Bool := decide (-1000 ≤ x) && decide (x ≤ 1000) && decide (-1000 ≤ y) && decide (y ≤ 1000)
def apt (a b : Int) : Int := max a b - min a b
set_option maxHeartbeats 1000000 in
theorem side_any (n : Int) (w : World) : Calls Tryd.prog 36 #[.int .i64 n] w fun e w' => e = .returned (.bool (isSide n)) ∧ w' = w := by
  unfold isSide
  by_cases h1 : 4 ≤ n
  · by_cases h2 : n ≤ 20
    · go_enter Tryd.func36, Tryd.ntmps36
      go_wp2
      go_ret
      simp [h1, h2]
    · have g2 : (n ≤ 20) = False := by simp [h2]
      go_enter Tryd.func36, Tryd.ntmps36
      go_wp2
      go_ret
      simp
  · have g1 : (4 ≤ n) = False := by simp [h1]
    go_enter Tryd.func36, Tryd.ntmps36
    go_wp2
    go_ret
    simp
set_option maxHeartbeats 1000000 in
theorem tile_any (t o : Int) (w : World) : Calls Tryd.prog 37 #[.int .i64 t, .int .i64 o] w fun e w' => e = .returned (.bool (isTile t o)) ∧ w' = w := by
  unfold isTile
  by_cases h0 : t = 0
  · subst h0
    go_enter Tryd.func37, Tryd.ntmps37
    go_wp2
    go_ret
    simp
  · by_cases h1 : t = 1
    · subst h1
      go_enter Tryd.func37, Tryd.ntmps37
      go_wp2
      go_ret
      simp
    · have g0 : (t == 0) = false := by simpa using h0
      have g1 : (t == 1) = false := by simpa using h1
      by_cases h2 : t = 2
      · subst h2
        by_cases h3 : 0 ≤ o
        · go_enter Tryd.func37, Tryd.ntmps37
          go_wp2
          go_ret
          simp [h3]
        · have g3 : (0 ≤ o) = False := by simp; omega
          go_enter Tryd.func37, Tryd.ntmps37
          go_wp2
          go_ret
          simp
      · have g2 : (t == 2) = false := by simpa using h2
        go_enter Tryd.func37, Tryd.ntmps37
        go_wp2
        go_ret
        simp [g0, g1, g2]
theorem meas_of {x y : Int} (h : meas x y = true) : -1000 ≤ x ∧ x ≤ 1000 ∧ -1000 ≤ y ∧ y ≤ 1000 := by simpa [meas, and_assoc] using h
set_option maxHeartbeats 1000000 in
theorem meas_any (x y : Int) (w : World) : Calls Tryd.prog 44 #[C x y] w fun e w' => Out w (.bool (meas x y)) e w' := by
  unfold meas C Out
  by_cases h1 : -1000 ≤ x
  · by_cases h2 : x ≤ 1000
    · by_cases h3 : -1000 ≤ y
      · go_enter Tryd.func44, Tryd.ntmps44
        go_wp2
        go_ret
        exact ⟨by simp [h1, h2, h3], (Below.refl _ _).alloc (Nat.le_refl _) _⟩
      · have g3 : (-1000 ≤ y) = False := by simp; omega
        go_enter Tryd.func44, Tryd.ntmps44
        go_wp2
        go_ret
        exact ⟨by simp, (Below.refl _ _).alloc (Nat.le_refl _) _⟩
    · have g2 : (x ≤ 1000) = False := by simp; omega
      go_enter Tryd.func44, Tryd.ntmps44
      go_wp2
      go_ret
      exact ⟨by simp, (Below.refl _ _).alloc (Nat.le_refl _) _⟩
  · have g1 : (-1000 ≤ x) = False := by simp; omega
    go_enter Tryd.func44, Tryd.ntmps44
    go_wp2
    go_ret
    exact ⟨by simp, (Below.refl _ _).alloc (Nat.le_refl _) _⟩
set_option maxHeartbeats 1000000 in
theorem apart_any (a b : Int) (ha : -1000 ≤ a ∧ a ≤ 1000) (hb : -1000 ≤ b ∧ b ≤ 1000) (w : World) : Calls Tryd.prog 45 #[.int .i64 a, .int .i64 b] w fun e w' => e = .returned (.int .i64 (apt a b)) ∧ w' = w := by
  unfold apt
  have h1 : -9223372036854775808 ≤ max a b - min a b := by omega
  have h2 : max a b - min a b ≤ 9223372036854775807 := by omega
  go_enter Tryd.func45, Tryd.ntmps45
  go_wp2 <;> (go_ret; exact ⟨by simp; omega, rfl⟩)
theorem floor_eq {a b : Int} (hb : 0 < b) : a / b = if a.tmod b < 0 then a.tdiv b - 1 else a.tdiv b := by
  have h1 := Int.tdiv_eq_ediv (a := a) (b := b)
  have h2 := Int.tmod_eq_emod (a := a) (b := b)
  have h3 := Int.emod_nonneg a (b := b) (by omega)
  have h4 := Int.emod_lt_of_pos a hb
  have h6 : b.sign = 1 := Int.sign_eq_one_of_pos hb
  by_cases hc : 0 ≤ a ∨ b ∣ a
  · rw [if_pos hc] at h1 h2
    rw [if_neg (by omega)]; omega
  · rw [if_neg hc] at h1 h2
    have h7 : ((b.natAbs : Nat) : Int) = b := by omega
    rw [h6] at h1
    rw [if_pos (by omega)]; omega
set_option maxHeartbeats 1000000 in
theorem floor_any (a b : Int) (ha : -100000000 ≤ a ∧ a ≤ 100000000) (hb : 0 < b) (hb2 : b ≤ 100000000) (w : World) : Calls Tryd.prog 55 #[.int .i64 a, .int .i64 b] w fun e w' => e = .returned (.int .i64 (a / b)) ∧ w' = w := by
  rw [floor_eq hb]
  have hb0 : b ≠ 0 := by omega
  have hq : -100000000 ≤ a.tdiv b ∧ a.tdiv b ≤ 100000000 := by
    have h1 := Int.natAbs_tdiv_le_natAbs a b
    omega
  have hr : -100000000 ≤ a.tmod b ∧ a.tmod b ≤ 100000000 := by
    have h1 := Int.natAbs_tmod a b
    have h2 := Nat.mod_le a.natAbs b.natAbs
    omega
  have q1 := hq.1
  have q2 := hq.2
  by_cases h : a.tmod b < 0
  · rw [if_pos h]
    go_enter Tryd.func55, Tryd.ntmps55
    go_wp2
    go_ret
    exact ⟨rfl, rfl⟩
  · have h' : (a.tmod b < 0) = False := by simp; omega
    rw [if_neg h]
    go_enter Tryd.func55, Tryd.ntmps55
    go_wp2
    go_ret
    exact ⟨rfl, rfl⟩
/-- The place k of n steps from a to b. -/
def btw (a b k n : Int) : Int := a + (2 * k * (b - a) + n) / (2 * n)
theorem mul_bound {k d : Int} (hk : 0 ≤ k ∧ k ≤ 2000) (hd : -2000 ≤ d ∧ d ≤ 2000) : -8000000 ≤ 2 * k * d ∧ 2 * k * d ≤ 8000000 := by
  have h1 := Int.mul_le_mul_of_nonneg_left hd.2 (show 0 ≤ 2 * k by omega)
  have h2 := Int.mul_le_mul_of_nonneg_left hd.1 (show 0 ≤ 2 * k by omega)
  omega
theorem ediv_bound {x d : Int} (hx : -8100000 ≤ x ∧ x ≤ 8100000) (hd : 0 < d) : -8100000 ≤ x / d ∧ x / d ≤ 8100000 := by
  constructor
  · rw [Int.le_ediv_iff_mul_le hd]
    have := Int.mul_le_mul_of_nonpos_left (show -8100000 ≤ (0 : Int) by omega) (show 1 ≤ d by omega)
    omega
  · by_cases h3 : 0 ≤ x
    · have := Int.ediv_le_self d h3; omega
    · have : x / d < 0 := Int.ediv_neg_of_neg_of_pos (by omega) hd
      omega
set_option maxHeartbeats 1000000 in
theorem between_any (a b k n : Int) (ha : -1000 ≤ a ∧ a ≤ 1000) (hb : -1000 ≤ b ∧ b ≤ 1000) (hk : 0 ≤ k ∧ k ≤ n) (hn : 0 < n ∧ n ≤ 2000) (w : World) : Calls Tryd.prog 48 #[.int .i64 a, .int .i64 b, .int .i64 k, .int .i64 n] w fun e w' => e = .returned (.int .i64 (btw a b k n)) ∧ w' = w := by
  have m := mul_bound (k := k) (d := b - a) (by omega) (by omega)
  have q := ediv_bound (x := 2 * k * (b - a) + n) (d := 2 * n) (by omega) (by omega)
  have h55 : Hid (∀ (W : World), Calls Tryd.prog 55 #[.int .i64 (2 * k * (b - a) + n), .int .i64 (2 * n)] W fun e w' => e = .returned (.int .i64 ((2 * k * (b - a) + n) / (2 * n))) ∧ w' = W) := fun W => floor_any _ _ (by omega) (by omega) (by omega) W
  unfold btw
  obtain ⟨X, hX⟩ : ∃ X, (2 * k * (b - a) + n) / (2 * n) = X := ⟨_, rfl⟩
  rw [hX] at h55 q ⊢
  obtain ⟨q1, q2⟩ := q
  obtain ⟨m1, m2⟩ := m
  obtain ⟨a1, a2⟩ := ha
  obtain ⟨b1, b2⟩ := hb
  obtain ⟨k1, k2⟩ := hk
  obtain ⟨n1, n2⟩ := hn
  clear hX
  have k3 : k ≤ 2000 := by omega
  go_enter Tryd.func48, Tryd.ntmps48
  go_wp2_with fail
  refine Calls.mono (h55.out _) ?_
  rintro e w1 ⟨rfl, rfl⟩
  go_wp2
  go_ret
  exact ⟨rfl, rfl⟩
end Go.Proofs.YthinldcblbgdnaaDoor
