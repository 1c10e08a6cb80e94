/- The program does something; the laws of roots and of sines. -/
import Derived.Test.YtdfobaggdeoggaaSine
import Derived.Test.YtdfobaggdeoggaaRoot
namespace Go.Proofs.Ytdfobaggdeoggaa
open Go.RowKit
/-- What a law that holds answers. -/
def OutT (w : World) (e : Ending) (w' : World) : Prop := e = .returned (.bool true) ∧ Below w.heap.size w w'
set_option maxHeartbeats 1000000 in
theorem awake_any (w : World) : Calls Try.prog 9 #[] w fun e w' => OutT w e w' := by
  have h10 : Hid (∀ W, Calls Try.prog 10 #[.int .i64 3] W fun e w' => OutI W 12884901888 e w') := fun W => by
    have h := of_any 3 ⟨by omega, by omega⟩ W
    rw [show hold (3 * 4294967296) = 12884901888 by decide] at h
    exact h
  have h22 : Hid (∀ W, Calls Try.prog 22 #[.int .u64 99] W fun e w' => e = .returned (.int .u64 9) ∧ Below W.heap.size W w') := fun W => by
    refine (root_any 99 (by omega) W).mono ?_
    rintro e w' ⟨r, hr, rfl, hb⟩
    obtain rfl : r = 9 := hr.unique ⟨by omega, by omega, by omega⟩
    exact ⟨rfl, hb⟩
  have h24 : Hid (∀ W, Calls Try.prog 24 #[.int .i64 256] W fun e w' => OutI W 4294967296 e w') := fun W => by
    have h := sine_any 256 ⟨by omega, by omega⟩ W
    rw [show sinV 256 = 4294967296 by decide] at h
    exact h
  go_enter Try.func9, Try.ntmps9
  go_wp2_with (first | (go_at_call 10; refine Calls.mono (h10.out _) ?_; rintro e w1 ⟨rfl, hb1⟩) | (go_at_call 22; refine Calls.mono (h22.out _) ?_; rintro e w2 ⟨rfl, hb2⟩) | (go_at_call 24; refine Calls.mono (h24.out _) ?_; rintro e w3 ⟨rfl, hb3⟩))
  go_ret
  exact ⟨rfl, hb1.trans ((hb2.trans (hb3.mono hb2.size)).mono hb1.size)⟩
set_option maxHeartbeats 1000000 in
theorem roots_walk (n : Nat) (hn : n < 18446744073709551616) (w : World) : Calls Try.prog 5 #[.int .u64 (n : Int)] w fun e w' => OutT w e w' := by
  have h9 : Hid (∀ W, Calls Try.prog 9 #[] W fun e w' => OutT W e w') := awake_any
  have h22 : Hid (∀ W, Calls Try.prog 22 #[.int .u64 (n : Int)] W fun e w' => ∃ r : Nat, IsRoot n r ∧ e = .returned (.int .u64 (r : Int)) ∧ Below W.heap.size W w') := root_any n hn
  have h23 : Hid (∀ r, IsRoot n r → ∀ W, Calls Try.prog 23 #[.int .u64 (n : Int)] W fun e w' => e = .returned (.int .u64 (r : Int)) ∧ Below W.heap.size W w') := fun r hr W => by
    refine (refRoot_any n hn W).mono ?_
    rintro e w' ⟨s, hs, rfl, hb⟩
    rw [hs.unique hr]
    exact ⟨rfl, hb⟩
  go_enter Try.func5, Try.ntmps5
  go_wp2_with (first | (go_at_call 9; refine Calls.mono (h9.out _) ?_; rintro e w1 ⟨rfl, hb1⟩))
  refine Calls.mono (h22.out _) ?_
  rintro e w2 ⟨r, hr, rfl, hb2⟩
  have h23' : Hid (∀ W, Calls Try.prog 23 #[.int .u64 (n : Int)] W fun e w' => e = .returned (.int .u64 (r : Int)) ∧ Below W.heap.size W w') := h23.out r hr
  obtain ⟨y, hy⟩ : ∃ y, r * r = y := ⟨_, rfl⟩
  obtain ⟨z, hz⟩ : ∃ z, (r + 1) * (r + 1) = z := ⟨_, rfl⟩
  have hr3 := hr.2.2
  have b2 : IntKind.u64.wrap ((r : Int) * (r : Int)) = (y : Int) := by
    have e := wrap_u64 y (by rw [← hy]; exact sq_fit hr3)
    rw [← hy] at e ⊢
    simpa using e
  have hy1 : y ≤ n := by rw [← hy]; exact hr.1
  have hz1 : n < z := by rw [← hz]; exact hr.2.1
  have b3 : r < 4294967295 → IntKind.u64.wrap (((r : Int) + 1) * ((r : Int) + 1)) = (z : Int) := fun h => by
    have e := wrap_u64 z (by rw [← hz]; exact sq_fit (by omega))
    rw [← hz] at e ⊢
    simpa using e
  clear hr hy hz h22 h23
  rcases Nat.lt_or_ge r 4294967295 with hlt | hge
  · have b4 := b3 hlt
    clear b3
    go_wp2_with (go_at_call 23; refine Calls.mono (h23'.out _) ?_; rintro e w3 ⟨rfl, hb3⟩)
    go_ret
    exact ⟨rfl, hb1.trans ((hb2.trans (hb3.mono hb2.size)).mono hb1.size)⟩
  · obtain rfl : r = 4294967295 := by omega
    have hnn : (18446744065119617025 : Int) ≤ (n : Int) := by
      rw [IntKind.wrap_u64] at b2
      omega
    clear b3 b2
    go_wp2_with (go_at_call 23; refine Calls.mono (h23'.out _) ?_; rintro e w3 ⟨rfl, hb3⟩)
    go_ret
    exact ⟨rfl, hb1.trans ((hb2.trans (hb3.mono hb2.size)).mono hb1.size)⟩
theorem sinV_half (t : Int) : sinV (t + 512) = -sinV t := by
  unfold sinV
  rw [show (t + 512) % 1024 % 512 = t % 1024 % 512 by omega]
  by_cases h : 512 ≤ t % 1024
  · rw [if_pos h, if_neg (by omega), Int.neg_neg]
  · rw [if_neg h, if_pos (by omega)]
theorem sinV_whole (t : Int) : sinV (t + 1024) = sinV t := by
  unfold sinV
  rw [show (t + 1024) % 1024 = t % 1024 by omega]
theorem sinV_in (t : Int) : -4294967296 ≤ sinV t ∧ sinV t ≤ 4294967296 := by
  have := sin_in (h := t % 1024 % 512) (by omega) (by omega)
  unfold sinV
  split <;> omega
set_option maxHeartbeats 1000000 in
theorem sines_walk (n : Int) (hn : I64 n) (w : World) : Calls Try.prog 6 #[.int .i64 n] w fun e w' => OutT w e w' := by
  have h9 : Hid (∀ W, Calls Try.prog 9 #[] W fun e w' => OutT W e w') := awake_any
  obtain ⟨s, hs⟩ : ∃ s, sinV n = s := ⟨_, rfl⟩
  have hsi := sinV_in n
  rw [hs] at hsi
  obtain ⟨hs1, hs2⟩ := hsi
  obtain ⟨t, ht⟩ : ∃ t, n.tmod 1000000 = t := ⟨_, rfl⟩
  have ht1 : -1000000 < t ∧ t < 1000000 := by
    rw [← ht]
    rcases Int.lt_or_le n 0 with h | h
    · rw [tmod_below h]; omega
    · rw [tmod_pos h]; omega
  obtain ⟨ht1, ht2⟩ := ht1
  obtain ⟨u, hu⟩ : ∃ u, sinV t = u := ⟨_, rfl⟩
  have hui := sinV_in t
  rw [hu] at hui
  obtain ⟨hu1, hu2⟩ := hui
  have hA : Hid (∀ W, Calls Try.prog 24 #[.int .i64 n] W fun e w' => OutI W s e w') := fun W => by have h := sine_any n hn W; rw [hs] at h; exact h
  have hR : Hid (∀ W, Calls Try.prog 25 #[.int .i64 n] W fun e w' => OutI W s e w') := fun W => by have h := refSine_any n hn W; rw [hs] at h; exact h
  have hB : Hid (∀ W, Calls Try.prog 24 #[.int .i64 t] W fun e w' => OutI W u e w') := fun W => by have h := sine_any t ⟨by omega, by omega⟩ W; rw [hu] at h; exact h
  have hC : Hid (∀ W, Calls Try.prog 24 #[.int .i64 (t + 512)] W fun e w' => OutI W (-u) e w') := fun W => by have h := sine_any (t + 512) ⟨by omega, by omega⟩ W; rw [sinV_half, hu] at h; exact h
  have hD : Hid (∀ W, Calls Try.prog 24 #[.int .i64 (t + 1024)] W fun e w' => OutI W u e w') := fun W => by have h := sine_any (t + 1024) ⟨by omega, by omega⟩ W; rw [sinV_whole, hu] at h; exact h
  clear hs hu hn
  go_enter Try.func6, Try.ntmps6
  go_wp2_with (go_at_call 9; refine Calls.mono (h9.out _) ?_; rintro e w1 ⟨rfl, hb1⟩)
  refine Calls.mono (hA.out _) ?_
  rintro e w2 ⟨rfl, hb2⟩
  go_wp2_with (go_at_call 25; refine Calls.mono (hR.out _) ?_; rintro e w3 ⟨rfl, hb3⟩)
  refine Calls.mono (hC.out _) ?_
  rintro e w4 ⟨rfl, hb4⟩
  go_wp2_with fail
  refine Calls.mono (hB.out _) ?_
  rintro e w5 ⟨rfl, hb5⟩
  go_wp2_with fail
  refine Calls.mono (hD.out _) ?_
  rintro e w6 ⟨rfl, hb6⟩
  go_wp2_with fail
  refine Calls.mono (hB.out _) ?_
  rintro e w7 ⟨rfl, hb7⟩
  go_wp2
  go_ret
  have k := hb1.size; have k2 := hb2.size; have k3 := hb3.size; have k4 := hb4.size; have k5 := hb5.size; have k6 := hb6.size
  exact ⟨rfl, hb1.trans ((hb2.mono k).trans ((hb3.mono (by omega)).trans ((hb4.mono (by omega)).trans ((hb5.mono (by omega)).trans ((hb6.mono (by omega)).trans (hb7.mono (by omega)))))))⟩
end Go.Proofs.Ytdfobaggdeoggaa
