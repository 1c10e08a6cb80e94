/- Sums, differences and whole numbers of the reference; the law of sums. -/
import Derived.Test.YtdfobaggdeoggaaSize
import Derived.Test.YtdfobaggdeoggaaAwake
import Derived.Test.YtdfobaggdeoggaaQuot
namespace Go.Proofs.Ytdfobaggdeoggaa
open Go.RowKit
theorem lt160 {a : Nat} (h : a < 1000000000000000000000000000000000000000000) : a + 1 < 2 ^ 160 := Nat.lt_of_lt_of_le (Nat.succ_lt_succ h) (by decide)
def sumV (x : Nat) (s : Bool) (y : Nat) (t : Bool) : Int := if s = t then heldV (x + y) s false else if x < y then heldV (y - x) t false else heldV (x - y) s false
attribute [local go_sem ↓] zv37
set_option maxRecDepth 100000 in
set_option maxHeartbeats 4000000 in
theorem sum_any (x y : Nat) (hx : x ≤ 9223372036854775808) (hy : y ≤ 9223372036854775808) (s t : Bool) (w : World) : Calls Try.prog 29 #[.agg (big x).toArray, .bool s, .agg (big y).toArray, .bool t] w fun e w' => OutI w (sumV x s y t) e w' := by
  have h37 : Hid (∀ W, Calls Try.prog 37 #[.agg (big x).toArray, .agg (big y).toArray] W fun e w' => e = .returned (.agg (big (x + y)).toArray) ∧ Below W.heap.size W w') := plus_any x y
  have h38 : Hid (∀ W, Calls Try.prog 38 #[.agg (big x).toArray, .agg (big y).toArray] W fun e w' => e = .returned (.bool (decide (x < y))) ∧ Below W.heap.size W w') := less_any x y (Nat.lt_of_le_of_lt hx (by decide)) (Nat.lt_of_le_of_lt hy (by decide))
  have h39a : Hid (¬ x < y → ∀ W, Calls Try.prog 39 #[.agg (big x).toArray, .agg (big y).toArray] W fun e w' => e = .returned (.agg (big (x - y)).toArray) ∧ Below W.heap.size W w') := fun h => minus_any x y (by omega) (Nat.lt_of_le_of_lt hx (by decide))
  have h39b : Hid (x < y → ∀ W, Calls Try.prog 39 #[.agg (big y).toArray, .agg (big x).toArray] W fun e w' => e = .returned (.agg (big (y - x)).toArray) ∧ Below W.heap.size W w') := fun h => minus_any y x (by omega) (Nat.lt_of_le_of_lt hy (by decide))
  have h27 : Hid (∀ n b, n ≤ 18446744073709551616 → ∀ W, Calls Try.prog 27 #[.agg (big n).toArray, .bool b, .bool false] W fun e w' => OutI W (heldV n b false) e w') := fun n b hn W => held_any n (lt160 (by omega)) b false W
  have HV : Hid (sumV x s y t = if s = t then heldV (x + y) s false else if x < y then heldV (y - x) t false else heldV (x - y) s false) := rfl
  have HX : Hid (x + y ≤ 18446744073709551616 ∧ x - y ≤ 18446744073709551616 ∧ y - x ≤ 18446744073709551616) := ⟨by omega, by omega, by omega⟩
  generalize sumV x s y t = V at *
  clear hx hy
  have hB0 : Blk ((w.alloc (.cells (big x).toArray 37)).alloc (.cells (big y).toArray 37)) w.heap.size (big x) 37 := (Blk.new _ _ _).alloc _
  have hB1 : Blk ((w.alloc (.cells (big x).toArray 37)).alloc (.cells (big y).toArray 37)) (w.heap.size + 1) (big y) 37 := Blk.new' _ _ _ _ (by simp)
  have hbe : Below w.heap.size w ((w.alloc (.cells (big x).toArray 37)).alloc (.cells (big y).toArray 37)) := ((Below.refl _ _).alloc (Nat.le_refl _) _).alloc (by simp) _
  go_enter Try.func29, Try.ntmps29
  go_upto_region 1 with (fail)
  generalize ((w.alloc (.cells (big x).toArray 37)).alloc (.cells (big y).toArray 37)) = W at *
  obtain ⟨A, hA⟩ : ∃ A, A = w.heap.size := ⟨_, rfl⟩
  rw [← hA] at hB0 hB1 hbe
  simp only [← hA]
  have HAW := hid hA
  clear hA
  have HBE := hid hbe
  clear hbe
  have hr0 := hB0.range
  have hr1 := hB1.range
  by_cases hst : s = t
  · subst hst
    have hss : (s == s) = true := by simp
    have hc := hid (h27.out (x + y) s HX.out.1)
    have HV1 : Hid (V = heldV (x + y) s false) := by rw [HV.out]; exact if_pos rfl
    clear HV
    generalize x + y = N at *
    go_wp2_with (first
      | ((with_reducible refine wpL_load 37 A 0 (big x) _ ?_ hr0 Try.underlying37 ?_ (size37 x) ?_); (rfl); (rfl); (simp only [Act.put, List.setIfInBounds_toArray, List.set_cons_zero, List.set_cons_succ]))
      | ((with_reducible refine wpL_load 37 (A + 1) 0 (big y) _ ?_ hr1 Try.underlying37 ?_ (size37 y) ?_); (rfl); (rfl); (simp only [Act.put, List.setIfInBounds_toArray, List.set_cons_zero, List.set_cons_succ])))
    refine Calls.mono (h37.out _) ?_
    rintro e w3 ⟨rfl, hb3⟩
    go_wp2_with fail
    refine Calls.mono (hc.out _) ?_
    rintro e w4 ⟨rfl, hb4⟩
    go_wp2_with fail
    go_ret
    refine ⟨by rw [HV1.out]; rfl, ?_⟩
    rw [← HAW.out]
    have k1 := HBE.out.size
    have k2 := hb3.size
    have k3 := HAW.out
    exact HBE.out.trans ((hb3.mono (by omega)).trans (hb4.mono (by omega)))
  · have hss : (s == t) = false := by simp [hst]
    go_wp2_with (first
      | ((with_reducible refine wpL_load 37 A 0 (big x) _ ?_ hr0 Try.underlying37 ?_ (size37 x) ?_); (rfl); (rfl); (simp only [Act.put, List.setIfInBounds_toArray, List.set_cons_zero, List.set_cons_succ]))
      | ((with_reducible refine wpL_load 37 (A + 1) 0 (big y) _ ?_ hr1 Try.underlying37 ?_ (size37 y) ?_); (rfl); (rfl); (simp only [Act.put, List.setIfInBounds_toArray, List.set_cons_zero, List.set_cons_succ])))
    refine Calls.mono (h38.out _) ?_
    rintro e w3 ⟨rfl, hb3⟩
    have g0 := (hB0.below hb3 hB0.lt).range
    have g1 := (hB1.below hb3 hB1.lt).range
    have HB3 := hid hb3
    clear hr0 hr1 hB0 hB1 hb3
    by_cases hxy : x < y
    · rw [decide_eq_true hxy]
      have hm := hid (h39b.out hxy)
      have hc := hid (h27.out (y - x) t HX.out.2.2)
      generalize y - x = N at *
      go_wp2_with (first
        | ((with_reducible refine wpL_load 37 A 0 (big x) _ ?_ g0 Try.underlying37 ?_ (size37 x) ?_); (rfl); (rfl); (simp only [Act.put, List.setIfInBounds_toArray, List.set_cons_zero, List.set_cons_succ]))
        | ((with_reducible refine wpL_load 37 (A + 1) 0 (big y) _ ?_ g1 Try.underlying37 ?_ (size37 y) ?_); (rfl); (rfl); (simp only [Act.put, List.setIfInBounds_toArray, List.set_cons_zero, List.set_cons_succ])))
      refine Calls.mono (hm.out _) ?_
      rintro e w4 ⟨rfl, hb4⟩
      go_wp2_with fail
      refine Calls.mono (hc.out _) ?_
      rintro e w5 ⟨rfl, hb5⟩
      go_wp2_with fail
      go_ret
      refine ⟨by rw [HV.out, if_neg hst, if_pos hxy]; rfl, ?_⟩
      rw [← HAW.out]
      have k1 := HBE.out.size
      have k2 := HB3.out.size
      have k4 := hb4.size
      have k3 := HAW.out
      exact HBE.out.trans ((HB3.out.mono (by omega)).trans ((hb4.mono (by omega)).trans (hb5.mono (by omega))))
    · rw [decide_eq_false hxy]
      have hm := hid (h39a.out hxy)
      have hc := hid (h27.out (x - y) s HX.out.2.1)
      generalize x - y = N at *
      go_wp2_with (first
        | ((with_reducible refine wpL_load 37 A 0 (big x) _ ?_ g0 Try.underlying37 ?_ (size37 x) ?_); (rfl); (rfl); (simp only [Act.put, List.setIfInBounds_toArray, List.set_cons_zero, List.set_cons_succ]))
        | ((with_reducible refine wpL_load 37 (A + 1) 0 (big y) _ ?_ g1 Try.underlying37 ?_ (size37 y) ?_); (rfl); (rfl); (simp only [Act.put, List.setIfInBounds_toArray, List.set_cons_zero, List.set_cons_succ])))
      refine Calls.mono (hm.out _) ?_
      rintro e w4 ⟨rfl, hb4⟩
      go_wp2_with fail
      refine Calls.mono (hc.out _) ?_
      rintro e w5 ⟨rfl, hb5⟩
      go_wp2_with fail
      go_ret
      refine ⟨by rw [HV.out, if_neg hst, if_neg hxy]; rfl, ?_⟩
      rw [← HAW.out]
      have k1 := HBE.out.size
      have k2 := HB3.out.size
      have k4 := hb4.size
      have k3 := HAW.out
      exact HBE.out.trans ((HB3.out.mono (by omega)).trans ((hb4.mono (by omega)).trans (hb5.mono (by omega))))
theorem sumV_add (a b : Int) : sumV a.natAbs (decide (a < 0)) b.natAbs (decide (b < 0)) = hold (a + b) := by
  unfold sumV heldV
  rcases Int.lt_or_le a 0 with ha | ha <;> rcases Int.lt_or_le b 0 with hb | hb
  · rw [decide_eq_true ha, decide_eq_true hb]; simp; congr 1; omega
  · rw [decide_eq_true ha, decide_eq_false (by omega)]; simp; split <;> congr 1 <;> omega
  · rw [decide_eq_false (by omega), decide_eq_true hb]; simp; split <;> congr 1 <;> omega
  · rw [decide_eq_false (by omega), decide_eq_false (by omega)]; simp; congr 1; omega
theorem sumV_sub (a b : Int) : sumV a.natAbs (decide (a < 0)) b.natAbs (!decide (b < 0)) = hold (a - b) := by
  unfold sumV heldV
  rcases Int.lt_or_le a 0 with ha | ha <;> rcases Int.lt_or_le b 0 with hb | hb
  · rw [decide_eq_true ha, decide_eq_true hb]; simp; split <;> congr 1 <;> omega
  · rw [decide_eq_true ha, decide_eq_false (by omega)]; simp; congr 1; omega
  · rw [decide_eq_false (by omega), decide_eq_true hb]; simp; congr 1; omega
  · rw [decide_eq_false (by omega), decide_eq_false (by omega)]; simp; split <;> congr 1 <;> omega
theorem heldV_of (n : Int) : heldV (n.natAbs * 4294967296) (decide (n < 0)) false = hold (n * 4294967296) := by
  unfold heldV
  rcases Int.lt_or_le n 0 with h | h
  · rw [decide_eq_true h]; simp; congr 1; omega
  · rw [decide_eq_false (by omega)]; simp; congr 1; omega
set_option maxRecDepth 100000 in
set_option maxHeartbeats 4000000 in
theorem refAdd_any (a b : Int) (ha : I64 a) (hb : I64 b) (w : World) : Calls Try.prog 15 #[.int .i64 a, .int .i64 b] w fun e w' => OutI w (hold (a + b)) e w' := by
  have h1 := hid (ofBig_any a ha)
  have h2 := hid (ofBig_any b hb)
  have h3 := hid (sum_any a.natAbs b.natAbs (natAbs_le ha) (natAbs_le hb) (decide (a < 0)) (decide (b < 0)))
  rw [sumV_add a b] at h3
  generalize hold (a + b) = V at *
  generalize a.natAbs = X at *
  generalize b.natAbs = Y at *
  generalize decide (a < 0) = S at *
  generalize decide (b < 0) = T at *
  clear ha hb
  go_enter Try.func15, Try.ntmps15
  go_wp2_with fail
  refine Calls.mono (h1.out _) ?_
  rintro e w1 ⟨rfl, hb1⟩
  go_upto_region 2 with (first
    | ((with_reducible refine wpL_new 37 (big 0) (big X) zv37 (by rw [big_length, big_length]) ?_ ?_ (size37 X) (big_oneCell X) ?_); (rfl); (rfl); (simp only [Act.put, List.setIfInBounds_toArray, List.set_cons_zero, List.set_cons_succ])))
  have gB0 : Blk (w1.alloc (.cells (big X).toArray 37)) w1.heap.size (big X) 37 := Blk.new _ _ _
  have HE1 : Hid (Below w.heap.size w (w1.alloc (.cells (big X).toArray 37))) := hb1.alloc hb1.size _
  have HL1 : Hid (w1.heap.size < (w1.alloc (.cells (big X).toArray 37)).heap.size) := gB0.lt
  generalize (w1.alloc (.cells (big X).toArray 37)) = W1 at *
  generalize w1.heap.size = A at *
  clear hb1
  go_wp2_with fail
  refine Calls.mono (h2.out _) ?_
  rintro e w2 ⟨rfl, hb2⟩
  have g0 := gB0.below hb2 gB0.lt
  have HE2 : Hid (Below w.heap.size w w2) := HE1.out.trans (hb2.mono HE1.out.size)
  clear gB0 HE1 HL1 hb2
  go_upto_region 3 with (first
    | ((with_reducible refine wpL_new 37 (big 0) (big Y) zv37 (by rw [big_length, big_length]) ?_ ?_ (size37 Y) (big_oneCell Y) ?_); (rfl); (rfl); (simp only [Act.put, List.setIfInBounds_toArray, List.set_cons_zero, List.set_cons_succ])))
  have q0 : Blk (w2.alloc (.cells (big Y).toArray 37)) A (big X) 37 := g0.alloc _
  have q1 : Blk (w2.alloc (.cells (big Y).toArray 37)) w2.heap.size (big Y) 37 := Blk.new _ _ _
  have HE3 : Hid (Below w.heap.size w (w2.alloc (.cells (big Y).toArray 37))) := HE2.out.alloc HE2.out.size _
  clear g0 HE2
  generalize (w2.alloc (.cells (big Y).toArray 37)) = W2 at *
  generalize w2.heap.size = B at *
  have hr0 := q0.range
  have hr1 := q1.range
  clear q0 q1
  go_wp2_with (first
    | ((with_reducible refine wpL_load 37 A 0 (big X) _ ?_ hr0 Try.underlying37 ?_ (size37 X) ?_); (rfl); (rfl); (simp only [Act.put, List.setIfInBounds_toArray, List.set_cons_zero, List.set_cons_succ]))
    | ((with_reducible refine wpL_load 37 B 0 (big Y) _ ?_ hr1 Try.underlying37 ?_ (size37 Y) ?_); (rfl); (rfl); (simp only [Act.put, List.setIfInBounds_toArray, List.set_cons_zero, List.set_cons_succ])))
  refine Calls.mono (h3.out _) ?_
  rintro e w3 ⟨rfl, hb3⟩
  go_wp2_with fail
  go_ret
  exact ⟨rfl, HE3.out.trans (hb3.mono HE3.out.size)⟩
set_option maxRecDepth 100000 in
set_option maxHeartbeats 4000000 in
theorem refSub_any (a b : Int) (ha : I64 a) (hb : I64 b) (w : World) : Calls Try.prog 17 #[.int .i64 a, .int .i64 b] w fun e w' => OutI w (hold (a - b)) e w' := by
  have h1 := hid (ofBig_any a ha)
  have h2 := hid (ofBig_any b hb)
  have h3 := hid (sum_any a.natAbs b.natAbs (natAbs_le ha) (natAbs_le hb) (decide (a < 0)) (!decide (b < 0)))
  rw [sumV_sub a b] at h3
  generalize hold (a - b) = V at *
  generalize a.natAbs = X at *
  generalize b.natAbs = Y at *
  generalize decide (a < 0) = S at *
  generalize decide (b < 0) = T at *
  clear ha hb
  go_enter Try.func17, Try.ntmps17
  go_wp2_with fail
  refine Calls.mono (h1.out _) ?_
  rintro e w1 ⟨rfl, hb1⟩
  go_upto_region 2 with (first
    | ((with_reducible refine wpL_new 37 (big 0) (big X) zv37 (by rw [big_length, big_length]) ?_ ?_ (size37 X) (big_oneCell X) ?_); (rfl); (rfl); (simp only [Act.put, List.setIfInBounds_toArray, List.set_cons_zero, List.set_cons_succ])))
  have gB0 : Blk (w1.alloc (.cells (big X).toArray 37)) w1.heap.size (big X) 37 := Blk.new _ _ _
  have HE1 : Hid (Below w.heap.size w (w1.alloc (.cells (big X).toArray 37))) := hb1.alloc hb1.size _
  have HL1 : Hid (w1.heap.size < (w1.alloc (.cells (big X).toArray 37)).heap.size) := gB0.lt
  generalize (w1.alloc (.cells (big X).toArray 37)) = W1 at *
  generalize w1.heap.size = A at *
  clear hb1
  go_wp2_with fail
  refine Calls.mono (h2.out _) ?_
  rintro e w2 ⟨rfl, hb2⟩
  have g0 := gB0.below hb2 gB0.lt
  have HE2 : Hid (Below w.heap.size w w2) := HE1.out.trans (hb2.mono HE1.out.size)
  clear gB0 HE1 HL1 hb2
  go_upto_region 3 with (first
    | ((with_reducible refine wpL_new 37 (big 0) (big Y) zv37 (by rw [big_length, big_length]) ?_ ?_ (size37 Y) (big_oneCell Y) ?_); (rfl); (rfl); (simp only [Act.put, List.setIfInBounds_toArray, List.set_cons_zero, List.set_cons_succ])))
  have q0 : Blk (w2.alloc (.cells (big Y).toArray 37)) A (big X) 37 := g0.alloc _
  have q1 : Blk (w2.alloc (.cells (big Y).toArray 37)) w2.heap.size (big Y) 37 := Blk.new _ _ _
  have HE3 : Hid (Below w.heap.size w (w2.alloc (.cells (big Y).toArray 37))) := HE2.out.alloc HE2.out.size _
  clear g0 HE2
  generalize (w2.alloc (.cells (big Y).toArray 37)) = W2 at *
  generalize w2.heap.size = B at *
  have hr0 := q0.range
  have hr1 := q1.range
  clear q0 q1
  go_wp2_with (first
    | ((with_reducible refine wpL_load 37 A 0 (big X) _ ?_ hr0 Try.underlying37 ?_ (size37 X) ?_); (rfl); (rfl); (simp only [Act.put, List.setIfInBounds_toArray, List.set_cons_zero, List.set_cons_succ]))
    | ((with_reducible refine wpL_load 37 B 0 (big Y) _ ?_ hr1 Try.underlying37 ?_ (size37 Y) ?_); (rfl); (rfl); (simp only [Act.put, List.setIfInBounds_toArray, List.set_cons_zero, List.set_cons_succ])))
  refine Calls.mono (h3.out _) ?_
  rintro e w3 ⟨rfl, hb3⟩
  go_wp2_with fail
  go_ret
  exact ⟨rfl, HE3.out.trans (hb3.mono HE3.out.size)⟩
set_option maxRecDepth 100000 in
set_option maxHeartbeats 4000000 in
theorem refOf_any (n : Int) (hn : I64 n) (w : World) : Calls Try.prog 11 #[.int .i64 n] w fun e w' => OutI w (hold (n * 4294967296)) e w' := by
  have h1 := hid (ofBig_any n hn)
  have h2 : Hid (∀ W, Calls Try.prog 28 #[.agg (big n.natAbs).toArray, .int .i64 32] W fun e w' => e = .returned (.agg (big (n.natAbs * 4294967296)).toArray) ∧ Below W.heap.size W w') := up_any n.natAbs 32 (by omega)
  have h3 := hid (held_any (n.natAbs * 4294967296) (lt160 (by have := natAbs_le hn; omega)) (decide (n < 0)) false)
  rw [heldV_of n] at h3
  generalize hold (n * 4294967296) = V at *
  generalize n.natAbs * 4294967296 = Y at *
  generalize n.natAbs = X at *
  generalize decide (n < 0) = S at *
  clear hn
  go_enter Try.func11, Try.ntmps11
  go_wp2_with fail
  refine Calls.mono (h1.out _) ?_
  rintro e w1 ⟨rfl, hb1⟩
  go_upto_region 2 with (first
    | ((with_reducible refine wpL_new 37 (big 0) (big X) zv37 (by rw [big_length, big_length]) ?_ ?_ (size37 X) (big_oneCell X) ?_); (rfl); (rfl); (simp only [Act.put, List.setIfInBounds_toArray, List.set_cons_zero, List.set_cons_succ])))
  have gB0 : Blk (w1.alloc (.cells (big X).toArray 37)) w1.heap.size (big X) 37 := Blk.new _ _ _
  have HE1 : Hid (Below w.heap.size w (w1.alloc (.cells (big X).toArray 37))) := hb1.alloc hb1.size _
  generalize (w1.alloc (.cells (big X).toArray 37)) = W1 at *
  generalize w1.heap.size = A at *
  clear hb1
  have hr0 := gB0.range
  clear gB0
  go_wp2_with (first
    | ((with_reducible refine wpL_load 37 A 0 (big X) _ ?_ hr0 Try.underlying37 ?_ (size37 X) ?_); (rfl); (rfl); (simp only [Act.put, List.setIfInBounds_toArray, List.set_cons_zero, List.set_cons_succ])))
  refine Calls.mono (h2.out _) ?_
  rintro e w2 ⟨rfl, hb2⟩
  go_wp2_with fail
  refine Calls.mono (h3.out _) ?_
  rintro e w3 ⟨rfl, hb3⟩
  go_wp2_with fail
  go_ret
  exact ⟨rfl, HE1.out.trans ((hb2.mono HE1.out.size).trans (hb3.mono (Nat.le_trans HE1.out.size hb2.size)))⟩
end Go.Proofs.Ytdfobaggdeoggaa
