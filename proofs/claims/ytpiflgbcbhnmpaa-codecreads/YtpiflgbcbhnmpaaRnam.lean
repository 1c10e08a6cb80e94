/- The reference's names, within, Formed. -/
import Derived.Test.YtpiflgbcbhnmpaaFormedAll
namespace Go.Proofs.Ytpiflgbcbhnmpaa
open Go.RowKit
set_option maxRecDepth 100000 in
theorem names58 (k : Int) (w : World) : Calls Try.prog 58 #[.int .i64 k] w fun e w' => e = .returned (.tuple #[.bool (nU k), .bool (nT k), .bool (nW k), .bool (nC k)]) ∧ w' = w := by
  have hc : k = 1 ∨ k = 2 ∨ k = 3 ∨ k = 4 ∨ k = 5 ∨ (k < 1 ∧ (1 ≤ k) = False ∧ (k == 1) = false ∧ (k == 2) = false ∧ (k == 3) = false ∧ (k == 4) = false ∧ (k == 5) = false) ∨ (1 ≤ k ∧ (k ≤ 5) = False ∧ (k == 1) = false ∧ (k == 2) = false ∧ (k == 3) = false ∧ (k == 4) = false ∧ (k == 5) = false) := by simp; omega
  rcases hc with rfl | rfl | rfl | rfl | rfl | ⟨h0, g0, h1, h2, h3, h4, h5⟩ | ⟨h0, g0, h1, h2, h3, h4, h5⟩
  case' inr.inr.inr.inr.inr.inl => rw [show nU k = false by simp [nU, h1, h2, h3, h4, h5], show nT k = false by simp [nT, h2], show nW k = false by simp [nW, h4], show nC k = false by simp [nC, h1, h3]]
  case' inr.inr.inr.inr.inr.inr => rw [show nU k = false by simp [nU, h1, h2, h3, h4, h5], show nT k = false by simp [nT, h2], show nW k = false by simp [nW, h4], show nC k = false by simp [nC, h1, h3]]
  all_goals
    try simp only [show nU 1 = true from rfl, show nT 1 = false from rfl, show nW 1 = false from rfl, show nC 1 = true from rfl, show nU 2 = true from rfl, show nT 2 = true from rfl, show nW 2 = false from rfl, show nC 2 = false from rfl, show nU 3 = true from rfl, show nT 3 = false from rfl, show nW 3 = false from rfl, show nC 3 = true from rfl, show nU 4 = true from rfl, show nT 4 = false from rfl, show nW 4 = true from rfl, show nC 4 = false from rfl, show nU 5 = true from rfl, show nT 5 = false from rfl, show nW 5 = false from rfl, show nC 5 = false from rfl]
    go_enter Try.func58, Try.ntmps58
    go_wp2
    exact bodyPost_ret (v := .tuple #[.bool _, .bool _, .bool _, .bool _]) (by simp [results, Try.results58, go_sem]) rfl ⟨rfl, rfl⟩
theorem within59 (a b : Int) (w : World) : Calls Try.prog 59 #[.int .i64 a, .int .i64 b] w fun e w' => e = .returned (.bool (rng a (b - 1))) ∧ w' = w := by
  have hr : rng a (b - 1) = (decide (0 ≤ a) && decide (a < b)) := by unfold rng; congr 1; simp; omega
  rw [hr]
  by_cases h : 0 ≤ a
  · have e : decide (0 ≤ a) = true := by simpa using h
    rw [e, Bool.true_and]
    go_enter Try.func59, Try.ntmps59
    go_wp2
    go_ret
    exact ⟨rfl, rfl⟩
  · have e : decide (0 ≤ a) = false := by simpa using h
    rw [e, Bool.false_and]
    go_enter Try.func59, Try.ntmps59
    go_wp2
    go_ret
    exact ⟨rfl, rfl⟩

set_option maxRecDepth 100000 in
set_option maxHeartbeats 4000000 in
theorem formed25_1 (u t h x y : Int) (w : World) : Calls Try.prog 25 #[cmd 1 u t h x y] w fun e w' => e = .returned (.bool (frm 1 u t h x y)) ∧ Below w.heap.size w w' := by
  have hn : Hid (∀ W, Calls Try.prog 58 #[.int .i64 1] W fun e w' => e = .returned (.tuple #[.bool true, .bool false, .bool false, .bool true]) ∧ w' = W) := fun W => names58 1 W
  have hw : Hid (∀ a b q W, rng a (b - 1) = q → Calls Try.prog 59 #[.int .i64 a, .int .i64 b] W fun e w' => e = .returned (.bool q) ∧ w' = W) := fun a b q W h => by rw [← h]; exact within59 a b W
  have hA : Hid (∀ W : World, ∀ o, Below W.heap.size W (W.alloc o)) := fun W o => (Below.refl _ _).alloc (Nat.le_refl _) _
  unfold cmd
  by_cases zt : t = 0
  · subst zt
    by_cases zh : h = 0
    · subst zh
      rcases r0 : rng u (2147483648 - 1) with _ | _
      · have s0 : rng u 2147483647 = false := r0
        go_enter Try.func25, Try.ntmps25
        go_wp2_with (first
          | (go_at_call 58; refine Calls.mono (hn.out _) ?_; rintro e w2 ⟨rfl, rfl⟩)
          | (go_at_call 59; with_reducible refine Calls.mono (hw.out _ _ false _ r0) ?_; rintro e w3 ⟨rfl, rfl⟩))
        go_ret
        exact ⟨by simp [*, frm, inR, bareEq, nU, nT, nW, nC], hA.out _ _⟩
      · have r1 : rng 0 (2147483648 - 1) = true := rfl
        have r2 : rng 0 (5 - 1) = true := rfl
        rcases r3 : rng x (20 - 1) with _ | _
        · have s0 : rng u 2147483647 = true := r0
          have s1 : rng 0 2147483647 = true := r1
          have s2 : rng 0 4 = true := r2
          have s3 : rng x 19 = false := r3
          go_enter Try.func25, Try.ntmps25
          go_wp2_with (first
            | (go_at_call 58; refine Calls.mono (hn.out _) ?_; rintro e w2 ⟨rfl, rfl⟩)
            | (go_at_call 59; with_reducible refine Calls.mono (hw.out _ _ true _ r0) ?_; rintro e w3 ⟨rfl, rfl⟩)
            | (go_at_call 59; with_reducible refine Calls.mono (hw.out _ _ true _ r1) ?_; rintro e w3 ⟨rfl, rfl⟩)
            | (go_at_call 59; with_reducible refine Calls.mono (hw.out _ _ true _ r2) ?_; rintro e w3 ⟨rfl, rfl⟩)
            | (go_at_call 59; with_reducible refine Calls.mono (hw.out _ _ false _ r3) ?_; rintro e w3 ⟨rfl, rfl⟩))
          go_ret
          exact ⟨by simp [*, frm, inR, bareEq, nU, nT, nW, nC], hA.out _ _⟩
        · rcases r4 : rng y (20 - 1) with _ | _
          · have s0 : rng u 2147483647 = true := r0
            have s1 : rng 0 2147483647 = true := r1
            have s2 : rng 0 4 = true := r2
            have s3 : rng x 19 = true := r3
            have s4 : rng y 19 = false := r4
            go_enter Try.func25, Try.ntmps25
            go_wp2_with (first
              | (go_at_call 58; refine Calls.mono (hn.out _) ?_; rintro e w2 ⟨rfl, rfl⟩)
              | (go_at_call 59; with_reducible refine Calls.mono (hw.out _ _ true _ r0) ?_; rintro e w3 ⟨rfl, rfl⟩)
              | (go_at_call 59; with_reducible refine Calls.mono (hw.out _ _ true _ r1) ?_; rintro e w3 ⟨rfl, rfl⟩)
              | (go_at_call 59; with_reducible refine Calls.mono (hw.out _ _ true _ r2) ?_; rintro e w3 ⟨rfl, rfl⟩)
              | (go_at_call 59; with_reducible refine Calls.mono (hw.out _ _ true _ r3) ?_; rintro e w3 ⟨rfl, rfl⟩)
              | (go_at_call 59; with_reducible refine Calls.mono (hw.out _ _ false _ r4) ?_; rintro e w3 ⟨rfl, rfl⟩))
            go_ret
            exact ⟨by simp [*, frm, inR, bareEq, nU, nT, nW, nC], hA.out _ _⟩
          · have s0 : rng u 2147483647 = true := r0
            have s1 : rng 0 2147483647 = true := r1
            have s2 : rng 0 4 = true := r2
            have s3 : rng x 19 = true := r3
            have s4 : rng y 19 = true := r4
            go_enter Try.func25, Try.ntmps25
            go_wp2_with (first
              | (go_at_call 58; refine Calls.mono (hn.out _) ?_; rintro e w2 ⟨rfl, rfl⟩)
              | (go_at_call 59; with_reducible refine Calls.mono (hw.out _ _ true _ r0) ?_; rintro e w3 ⟨rfl, rfl⟩)
              | (go_at_call 59; with_reducible refine Calls.mono (hw.out _ _ true _ r1) ?_; rintro e w3 ⟨rfl, rfl⟩)
              | (go_at_call 59; with_reducible refine Calls.mono (hw.out _ _ true _ r2) ?_; rintro e w3 ⟨rfl, rfl⟩)
              | (go_at_call 59; with_reducible refine Calls.mono (hw.out _ _ true _ r3) ?_; rintro e w3 ⟨rfl, rfl⟩)
              | (go_at_call 59; with_reducible refine Calls.mono (hw.out _ _ true _ r4) ?_; rintro e w3 ⟨rfl, rfl⟩))
            go_ret
            exact ⟨by simp [*, frm, inR, bareEq, nU, nT, nW, nC], hA.out _ _⟩
    · have gh : (h == 0) = false := by simpa using zh
      go_enter Try.func25, Try.ntmps25
      go_wp2_with (first
        | (go_at_call 58; refine Calls.mono (hn.out _) ?_; rintro e w2 ⟨rfl, rfl⟩))
      go_ret
      exact ⟨by simp [*, frm, inR, bareEq, nU, nT, nW, nC], hA.out _ _⟩
  · have gt : (t == 0) = false := by simpa using zt
    go_enter Try.func25, Try.ntmps25
    go_wp2_with (first
      | (go_at_call 58; refine Calls.mono (hn.out _) ?_; rintro e w2 ⟨rfl, rfl⟩))
    go_ret
    exact ⟨by simp [*, frm, inR, bareEq, nU, nT, nW, nC], hA.out _ _⟩

set_option maxRecDepth 100000 in
set_option maxHeartbeats 4000000 in
theorem formed25_2 (u t h x y : Int) (w : World) : Calls Try.prog 25 #[cmd 2 u t h x y] w fun e w' => e = .returned (.bool (frm 2 u t h x y)) ∧ Below w.heap.size w w' := by
  have hn : Hid (∀ W, Calls Try.prog 58 #[.int .i64 2] W fun e w' => e = .returned (.tuple #[.bool true, .bool true, .bool false, .bool false]) ∧ w' = W) := fun W => names58 2 W
  have hw : Hid (∀ a b q W, rng a (b - 1) = q → Calls Try.prog 59 #[.int .i64 a, .int .i64 b] W fun e w' => e = .returned (.bool q) ∧ w' = W) := fun a b q W h => by rw [← h]; exact within59 a b W
  have hA : Hid (∀ W : World, ∀ o, Below W.heap.size W (W.alloc o)) := fun W o => (Below.refl _ _).alloc (Nat.le_refl _) _
  unfold cmd
  by_cases zh : h = 0
  · subst zh
    by_cases zx : x = 0
    · subst zx
      by_cases zy : y = 0
      · subst zy
        rcases r0 : rng u (2147483648 - 1) with _ | _
        · have s0 : rng u 2147483647 = false := r0
          go_enter Try.func25, Try.ntmps25
          go_wp2_with (first
            | (go_at_call 58; refine Calls.mono (hn.out _) ?_; rintro e w2 ⟨rfl, rfl⟩)
            | (go_at_call 59; with_reducible refine Calls.mono (hw.out _ _ false _ r0) ?_; rintro e w3 ⟨rfl, rfl⟩))
          go_ret
          exact ⟨by simp [*, frm, inR, bareEq, nU, nT, nW, nC], hA.out _ _⟩
        · rcases r1 : rng t (2147483648 - 1) with _ | _
          · have s0 : rng u 2147483647 = true := r0
            have s1 : rng t 2147483647 = false := r1
            go_enter Try.func25, Try.ntmps25
            go_wp2_with (first
              | (go_at_call 58; refine Calls.mono (hn.out _) ?_; rintro e w2 ⟨rfl, rfl⟩)
              | (go_at_call 59; with_reducible refine Calls.mono (hw.out _ _ true _ r0) ?_; rintro e w3 ⟨rfl, rfl⟩)
              | (go_at_call 59; with_reducible refine Calls.mono (hw.out _ _ false _ r1) ?_; rintro e w3 ⟨rfl, rfl⟩))
            go_ret
            exact ⟨by simp [*, frm, inR, bareEq, nU, nT, nW, nC], hA.out _ _⟩
          · have r2 : rng 0 (5 - 1) = true := rfl
            have r3 : rng 0 (20 - 1) = true := rfl
            have r4 : rng 0 (20 - 1) = true := rfl
            have s0 : rng u 2147483647 = true := r0
            have s1 : rng t 2147483647 = true := r1
            have s2 : rng 0 4 = true := r2
            have s3 : rng 0 19 = true := r3
            have s4 : rng 0 19 = true := r4
            go_enter Try.func25, Try.ntmps25
            go_wp2_with (first
              | (go_at_call 58; refine Calls.mono (hn.out _) ?_; rintro e w2 ⟨rfl, rfl⟩)
              | (go_at_call 59; with_reducible refine Calls.mono (hw.out _ _ true _ r0) ?_; rintro e w3 ⟨rfl, rfl⟩)
              | (go_at_call 59; with_reducible refine Calls.mono (hw.out _ _ true _ r1) ?_; rintro e w3 ⟨rfl, rfl⟩)
              | (go_at_call 59; with_reducible refine Calls.mono (hw.out _ _ true _ r2) ?_; rintro e w3 ⟨rfl, rfl⟩)
              | (go_at_call 59; with_reducible refine Calls.mono (hw.out _ _ true _ r3) ?_; rintro e w3 ⟨rfl, rfl⟩)
              | (go_at_call 59; with_reducible refine Calls.mono (hw.out _ _ true _ r4) ?_; rintro e w3 ⟨rfl, rfl⟩))
            go_ret
            exact ⟨by simp [*, frm, inR, bareEq, nU, nT, nW, nC], hA.out _ _⟩
      · have gy : (y == 0) = false := by simpa using zy
        go_enter Try.func25, Try.ntmps25
        go_wp2_with (first
          | (go_at_call 58; refine Calls.mono (hn.out _) ?_; rintro e w2 ⟨rfl, rfl⟩))
        go_ret
        exact ⟨by simp [*, frm, inR, bareEq, nU, nT, nW, nC], hA.out _ _⟩
    · have gx : (x == 0) = false := by simpa using zx
      go_enter Try.func25, Try.ntmps25
      go_wp2_with (first
        | (go_at_call 58; refine Calls.mono (hn.out _) ?_; rintro e w2 ⟨rfl, rfl⟩))
      go_ret
      exact ⟨by simp [*, frm, inR, bareEq, nU, nT, nW, nC], hA.out _ _⟩
  · have gh : (h == 0) = false := by simpa using zh
    go_enter Try.func25, Try.ntmps25
    go_wp2_with (first
      | (go_at_call 58; refine Calls.mono (hn.out _) ?_; rintro e w2 ⟨rfl, rfl⟩))
    go_ret
    exact ⟨by simp [*, frm, inR, bareEq, nU, nT, nW, nC], hA.out _ _⟩

set_option maxRecDepth 100000 in
set_option maxHeartbeats 4000000 in
theorem formed25_3 (u t h x y : Int) (w : World) : Calls Try.prog 25 #[cmd 3 u t h x y] w fun e w' => e = .returned (.bool (frm 3 u t h x y)) ∧ Below w.heap.size w w' := by
  have hn : Hid (∀ W, Calls Try.prog 58 #[.int .i64 3] W fun e w' => e = .returned (.tuple #[.bool true, .bool false, .bool false, .bool true]) ∧ w' = W) := fun W => names58 3 W
  have hw : Hid (∀ a b q W, rng a (b - 1) = q → Calls Try.prog 59 #[.int .i64 a, .int .i64 b] W fun e w' => e = .returned (.bool q) ∧ w' = W) := fun a b q W h => by rw [← h]; exact within59 a b W
  have hA : Hid (∀ W : World, ∀ o, Below W.heap.size W (W.alloc o)) := fun W o => (Below.refl _ _).alloc (Nat.le_refl _) _
  unfold cmd
  by_cases zt : t = 0
  · subst zt
    by_cases zh : h = 0
    · subst zh
      rcases r0 : rng u (2147483648 - 1) with _ | _
      · have s0 : rng u 2147483647 = false := r0
        go_enter Try.func25, Try.ntmps25
        go_wp2_with (first
          | (go_at_call 58; refine Calls.mono (hn.out _) ?_; rintro e w2 ⟨rfl, rfl⟩)
          | (go_at_call 59; with_reducible refine Calls.mono (hw.out _ _ false _ r0) ?_; rintro e w3 ⟨rfl, rfl⟩))
        go_ret
        exact ⟨by simp [*, frm, inR, bareEq, nU, nT, nW, nC], hA.out _ _⟩
      · have r1 : rng 0 (2147483648 - 1) = true := rfl
        have r2 : rng 0 (5 - 1) = true := rfl
        rcases r3 : rng x (20 - 1) with _ | _
        · have s0 : rng u 2147483647 = true := r0
          have s1 : rng 0 2147483647 = true := r1
          have s2 : rng 0 4 = true := r2
          have s3 : rng x 19 = false := r3
          go_enter Try.func25, Try.ntmps25
          go_wp2_with (first
            | (go_at_call 58; refine Calls.mono (hn.out _) ?_; rintro e w2 ⟨rfl, rfl⟩)
            | (go_at_call 59; with_reducible refine Calls.mono (hw.out _ _ true _ r0) ?_; rintro e w3 ⟨rfl, rfl⟩)
            | (go_at_call 59; with_reducible refine Calls.mono (hw.out _ _ true _ r1) ?_; rintro e w3 ⟨rfl, rfl⟩)
            | (go_at_call 59; with_reducible refine Calls.mono (hw.out _ _ true _ r2) ?_; rintro e w3 ⟨rfl, rfl⟩)
            | (go_at_call 59; with_reducible refine Calls.mono (hw.out _ _ false _ r3) ?_; rintro e w3 ⟨rfl, rfl⟩))
          go_ret
          exact ⟨by simp [*, frm, inR, bareEq, nU, nT, nW, nC], hA.out _ _⟩
        · rcases r4 : rng y (20 - 1) with _ | _
          · have s0 : rng u 2147483647 = true := r0
            have s1 : rng 0 2147483647 = true := r1
            have s2 : rng 0 4 = true := r2
            have s3 : rng x 19 = true := r3
            have s4 : rng y 19 = false := r4
            go_enter Try.func25, Try.ntmps25
            go_wp2_with (first
              | (go_at_call 58; refine Calls.mono (hn.out _) ?_; rintro e w2 ⟨rfl, rfl⟩)
              | (go_at_call 59; with_reducible refine Calls.mono (hw.out _ _ true _ r0) ?_; rintro e w3 ⟨rfl, rfl⟩)
              | (go_at_call 59; with_reducible refine Calls.mono (hw.out _ _ true _ r1) ?_; rintro e w3 ⟨rfl, rfl⟩)
              | (go_at_call 59; with_reducible refine Calls.mono (hw.out _ _ true _ r2) ?_; rintro e w3 ⟨rfl, rfl⟩)
              | (go_at_call 59; with_reducible refine Calls.mono (hw.out _ _ true _ r3) ?_; rintro e w3 ⟨rfl, rfl⟩)
              | (go_at_call 59; with_reducible refine Calls.mono (hw.out _ _ false _ r4) ?_; rintro e w3 ⟨rfl, rfl⟩))
            go_ret
            exact ⟨by simp [*, frm, inR, bareEq, nU, nT, nW, nC], hA.out _ _⟩
          · have s0 : rng u 2147483647 = true := r0
            have s1 : rng 0 2147483647 = true := r1
            have s2 : rng 0 4 = true := r2
            have s3 : rng x 19 = true := r3
            have s4 : rng y 19 = true := r4
            go_enter Try.func25, Try.ntmps25
            go_wp2_with (first
              | (go_at_call 58; refine Calls.mono (hn.out _) ?_; rintro e w2 ⟨rfl, rfl⟩)
              | (go_at_call 59; with_reducible refine Calls.mono (hw.out _ _ true _ r0) ?_; rintro e w3 ⟨rfl, rfl⟩)
              | (go_at_call 59; with_reducible refine Calls.mono (hw.out _ _ true _ r1) ?_; rintro e w3 ⟨rfl, rfl⟩)
              | (go_at_call 59; with_reducible refine Calls.mono (hw.out _ _ true _ r2) ?_; rintro e w3 ⟨rfl, rfl⟩)
              | (go_at_call 59; with_reducible refine Calls.mono (hw.out _ _ true _ r3) ?_; rintro e w3 ⟨rfl, rfl⟩)
              | (go_at_call 59; with_reducible refine Calls.mono (hw.out _ _ true _ r4) ?_; rintro e w3 ⟨rfl, rfl⟩))
            go_ret
            exact ⟨by simp [*, frm, inR, bareEq, nU, nT, nW, nC], hA.out _ _⟩
    · have gh : (h == 0) = false := by simpa using zh
      go_enter Try.func25, Try.ntmps25
      go_wp2_with (first
        | (go_at_call 58; refine Calls.mono (hn.out _) ?_; rintro e w2 ⟨rfl, rfl⟩))
      go_ret
      exact ⟨by simp [*, frm, inR, bareEq, nU, nT, nW, nC], hA.out _ _⟩
  · have gt : (t == 0) = false := by simpa using zt
    go_enter Try.func25, Try.ntmps25
    go_wp2_with (first
      | (go_at_call 58; refine Calls.mono (hn.out _) ?_; rintro e w2 ⟨rfl, rfl⟩))
    go_ret
    exact ⟨by simp [*, frm, inR, bareEq, nU, nT, nW, nC], hA.out _ _⟩

set_option maxRecDepth 100000 in
set_option maxHeartbeats 4000000 in
theorem formed25_4 (u t h x y : Int) (w : World) : Calls Try.prog 25 #[cmd 4 u t h x y] w fun e w' => e = .returned (.bool (frm 4 u t h x y)) ∧ Below w.heap.size w w' := by
  have hn : Hid (∀ W, Calls Try.prog 58 #[.int .i64 4] W fun e w' => e = .returned (.tuple #[.bool true, .bool false, .bool true, .bool false]) ∧ w' = W) := fun W => names58 4 W
  have hw : Hid (∀ a b q W, rng a (b - 1) = q → Calls Try.prog 59 #[.int .i64 a, .int .i64 b] W fun e w' => e = .returned (.bool q) ∧ w' = W) := fun a b q W h => by rw [← h]; exact within59 a b W
  have hA : Hid (∀ W : World, ∀ o, Below W.heap.size W (W.alloc o)) := fun W o => (Below.refl _ _).alloc (Nat.le_refl _) _
  unfold cmd
  by_cases zt : t = 0
  · subst zt
    by_cases zx : x = 0
    · subst zx
      by_cases zy : y = 0
      · subst zy
        rcases r0 : rng u (2147483648 - 1) with _ | _
        · have s0 : rng u 2147483647 = false := r0
          go_enter Try.func25, Try.ntmps25
          go_wp2_with (first
            | (go_at_call 58; refine Calls.mono (hn.out _) ?_; rintro e w2 ⟨rfl, rfl⟩)
            | (go_at_call 59; with_reducible refine Calls.mono (hw.out _ _ false _ r0) ?_; rintro e w3 ⟨rfl, rfl⟩))
          go_ret
          exact ⟨by simp [*, frm, inR, bareEq, nU, nT, nW, nC], hA.out _ _⟩
        · have r1 : rng 0 (2147483648 - 1) = true := rfl
          rcases r2 : rng h (5 - 1) with _ | _
          · have s0 : rng u 2147483647 = true := r0
            have s1 : rng 0 2147483647 = true := r1
            have s2 : rng h 4 = false := r2
            go_enter Try.func25, Try.ntmps25
            go_wp2_with (first
              | (go_at_call 58; refine Calls.mono (hn.out _) ?_; rintro e w2 ⟨rfl, rfl⟩)
              | (go_at_call 59; with_reducible refine Calls.mono (hw.out _ _ true _ r0) ?_; rintro e w3 ⟨rfl, rfl⟩)
              | (go_at_call 59; with_reducible refine Calls.mono (hw.out _ _ true _ r1) ?_; rintro e w3 ⟨rfl, rfl⟩)
              | (go_at_call 59; with_reducible refine Calls.mono (hw.out _ _ false _ r2) ?_; rintro e w3 ⟨rfl, rfl⟩))
            go_ret
            exact ⟨by simp [*, frm, inR, bareEq, nU, nT, nW, nC], hA.out _ _⟩
          · have r3 : rng 0 (20 - 1) = true := rfl
            have r4 : rng 0 (20 - 1) = true := rfl
            have s0 : rng u 2147483647 = true := r0
            have s1 : rng 0 2147483647 = true := r1
            have s2 : rng h 4 = true := r2
            have s3 : rng 0 19 = true := r3
            have s4 : rng 0 19 = true := r4
            go_enter Try.func25, Try.ntmps25
            go_wp2_with (first
              | (go_at_call 58; refine Calls.mono (hn.out _) ?_; rintro e w2 ⟨rfl, rfl⟩)
              | (go_at_call 59; with_reducible refine Calls.mono (hw.out _ _ true _ r0) ?_; rintro e w3 ⟨rfl, rfl⟩)
              | (go_at_call 59; with_reducible refine Calls.mono (hw.out _ _ true _ r1) ?_; rintro e w3 ⟨rfl, rfl⟩)
              | (go_at_call 59; with_reducible refine Calls.mono (hw.out _ _ true _ r2) ?_; rintro e w3 ⟨rfl, rfl⟩)
              | (go_at_call 59; with_reducible refine Calls.mono (hw.out _ _ true _ r3) ?_; rintro e w3 ⟨rfl, rfl⟩)
              | (go_at_call 59; with_reducible refine Calls.mono (hw.out _ _ true _ r4) ?_; rintro e w3 ⟨rfl, rfl⟩))
            go_ret
            exact ⟨by simp [*, frm, inR, bareEq, nU, nT, nW, nC], hA.out _ _⟩
      · have gy : (y == 0) = false := by simpa using zy
        go_enter Try.func25, Try.ntmps25
        go_wp2_with (first
          | (go_at_call 58; refine Calls.mono (hn.out _) ?_; rintro e w2 ⟨rfl, rfl⟩))
        go_ret
        exact ⟨by simp [*, frm, inR, bareEq, nU, nT, nW, nC], hA.out _ _⟩
    · have gx : (x == 0) = false := by simpa using zx
      go_enter Try.func25, Try.ntmps25
      go_wp2_with (first
        | (go_at_call 58; refine Calls.mono (hn.out _) ?_; rintro e w2 ⟨rfl, rfl⟩))
      go_ret
      exact ⟨by simp [*, frm, inR, bareEq, nU, nT, nW, nC], hA.out _ _⟩
  · have gt : (t == 0) = false := by simpa using zt
    go_enter Try.func25, Try.ntmps25
    go_wp2_with (first
      | (go_at_call 58; refine Calls.mono (hn.out _) ?_; rintro e w2 ⟨rfl, rfl⟩))
    go_ret
    exact ⟨by simp [*, frm, inR, bareEq, nU, nT, nW, nC], hA.out _ _⟩

set_option maxRecDepth 100000 in
set_option maxHeartbeats 4000000 in
theorem formed25_5 (u t h x y : Int) (w : World) : Calls Try.prog 25 #[cmd 5 u t h x y] w fun e w' => e = .returned (.bool (frm 5 u t h x y)) ∧ Below w.heap.size w w' := by
  have hn : Hid (∀ W, Calls Try.prog 58 #[.int .i64 5] W fun e w' => e = .returned (.tuple #[.bool true, .bool false, .bool false, .bool false]) ∧ w' = W) := fun W => names58 5 W
  have hw : Hid (∀ a b q W, rng a (b - 1) = q → Calls Try.prog 59 #[.int .i64 a, .int .i64 b] W fun e w' => e = .returned (.bool q) ∧ w' = W) := fun a b q W h => by rw [← h]; exact within59 a b W
  have hA : Hid (∀ W : World, ∀ o, Below W.heap.size W (W.alloc o)) := fun W o => (Below.refl _ _).alloc (Nat.le_refl _) _
  unfold cmd
  by_cases zt : t = 0
  · subst zt
    by_cases zh : h = 0
    · subst zh
      by_cases zx : x = 0
      · subst zx
        by_cases zy : y = 0
        · subst zy
          rcases r0 : rng u (2147483648 - 1) with _ | _
          · have s0 : rng u 2147483647 = false := r0
            go_enter Try.func25, Try.ntmps25
            go_wp2_with (first
              | (go_at_call 58; refine Calls.mono (hn.out _) ?_; rintro e w2 ⟨rfl, rfl⟩)
              | (go_at_call 59; with_reducible refine Calls.mono (hw.out _ _ false _ r0) ?_; rintro e w3 ⟨rfl, rfl⟩))
            go_ret
            exact ⟨by simp [*, frm, inR, bareEq, nU, nT, nW, nC], hA.out _ _⟩
          · have r1 : rng 0 (2147483648 - 1) = true := rfl
            have r2 : rng 0 (5 - 1) = true := rfl
            have r3 : rng 0 (20 - 1) = true := rfl
            have r4 : rng 0 (20 - 1) = true := rfl
            have s0 : rng u 2147483647 = true := r0
            have s1 : rng 0 2147483647 = true := r1
            have s2 : rng 0 4 = true := r2
            have s3 : rng 0 19 = true := r3
            have s4 : rng 0 19 = true := r4
            go_enter Try.func25, Try.ntmps25
            go_wp2_with (first
              | (go_at_call 58; refine Calls.mono (hn.out _) ?_; rintro e w2 ⟨rfl, rfl⟩)
              | (go_at_call 59; with_reducible refine Calls.mono (hw.out _ _ true _ r0) ?_; rintro e w3 ⟨rfl, rfl⟩)
              | (go_at_call 59; with_reducible refine Calls.mono (hw.out _ _ true _ r1) ?_; rintro e w3 ⟨rfl, rfl⟩)
              | (go_at_call 59; with_reducible refine Calls.mono (hw.out _ _ true _ r2) ?_; rintro e w3 ⟨rfl, rfl⟩)
              | (go_at_call 59; with_reducible refine Calls.mono (hw.out _ _ true _ r3) ?_; rintro e w3 ⟨rfl, rfl⟩)
              | (go_at_call 59; with_reducible refine Calls.mono (hw.out _ _ true _ r4) ?_; rintro e w3 ⟨rfl, rfl⟩))
            go_ret
            exact ⟨by simp [*, frm, inR, bareEq, nU, nT, nW, nC], hA.out _ _⟩
        · have gy : (y == 0) = false := by simpa using zy
          go_enter Try.func25, Try.ntmps25
          go_wp2_with (first
            | (go_at_call 58; refine Calls.mono (hn.out _) ?_; rintro e w2 ⟨rfl, rfl⟩))
          go_ret
          exact ⟨by simp [*, frm, inR, bareEq, nU, nT, nW, nC], hA.out _ _⟩
      · have gx : (x == 0) = false := by simpa using zx
        go_enter Try.func25, Try.ntmps25
        go_wp2_with (first
          | (go_at_call 58; refine Calls.mono (hn.out _) ?_; rintro e w2 ⟨rfl, rfl⟩))
        go_ret
        exact ⟨by simp [*, frm, inR, bareEq, nU, nT, nW, nC], hA.out _ _⟩
    · have gh : (h == 0) = false := by simpa using zh
      go_enter Try.func25, Try.ntmps25
      go_wp2_with (first
        | (go_at_call 58; refine Calls.mono (hn.out _) ?_; rintro e w2 ⟨rfl, rfl⟩))
      go_ret
      exact ⟨by simp [*, frm, inR, bareEq, nU, nT, nW, nC], hA.out _ _⟩
  · have gt : (t == 0) = false := by simpa using zt
    go_enter Try.func25, Try.ntmps25
    go_wp2_with (first
      | (go_at_call 58; refine Calls.mono (hn.out _) ?_; rintro e w2 ⟨rfl, rfl⟩))
    go_ret
    exact ⟨by simp [*, frm, inR, bareEq, nU, nT, nW, nC], hA.out _ _⟩

set_option maxRecDepth 100000 in
set_option maxHeartbeats 4000000 in
theorem formed25_6 (u t h x y : Int) (w : World) : Calls Try.prog 25 #[cmd 6 u t h x y] w fun e w' => e = .returned (.bool (frm 6 u t h x y)) ∧ Below w.heap.size w w' := by
  have hn : Hid (∀ W, Calls Try.prog 58 #[.int .i64 6] W fun e w' => e = .returned (.tuple #[.bool false, .bool false, .bool false, .bool false]) ∧ w' = W) := fun W => names58 6 W
  have hw : Hid (∀ a b q W, rng a (b - 1) = q → Calls Try.prog 59 #[.int .i64 a, .int .i64 b] W fun e w' => e = .returned (.bool q) ∧ w' = W) := fun a b q W h => by rw [← h]; exact within59 a b W
  have hA : Hid (∀ W : World, ∀ o, Below W.heap.size W (W.alloc o)) := fun W o => (Below.refl _ _).alloc (Nat.le_refl _) _
  unfold cmd
  by_cases zu : u = 0
  · subst zu
    by_cases zt : t = 0
    · subst zt
      by_cases zh : h = 0
      · subst zh
        by_cases zx : x = 0
        · subst zx
          by_cases zy : y = 0
          · subst zy
            have r0 : rng 0 (2147483648 - 1) = true := rfl
            have r1 : rng 0 (2147483648 - 1) = true := rfl
            have r2 : rng 0 (5 - 1) = true := rfl
            have r3 : rng 0 (20 - 1) = true := rfl
            have r4 : rng 0 (20 - 1) = true := rfl
            have s0 : rng 0 2147483647 = true := r0
            have s1 : rng 0 2147483647 = true := r1
            have s2 : rng 0 4 = true := r2
            have s3 : rng 0 19 = true := r3
            have s4 : rng 0 19 = true := r4
            go_enter Try.func25, Try.ntmps25
            go_wp2_with (first
              | (go_at_call 58; refine Calls.mono (hn.out _) ?_; rintro e w2 ⟨rfl, rfl⟩)
              | (go_at_call 59; with_reducible refine Calls.mono (hw.out _ _ true _ r0) ?_; rintro e w3 ⟨rfl, rfl⟩)
              | (go_at_call 59; with_reducible refine Calls.mono (hw.out _ _ true _ r1) ?_; rintro e w3 ⟨rfl, rfl⟩)
              | (go_at_call 59; with_reducible refine Calls.mono (hw.out _ _ true _ r2) ?_; rintro e w3 ⟨rfl, rfl⟩)
              | (go_at_call 59; with_reducible refine Calls.mono (hw.out _ _ true _ r3) ?_; rintro e w3 ⟨rfl, rfl⟩)
              | (go_at_call 59; with_reducible refine Calls.mono (hw.out _ _ true _ r4) ?_; rintro e w3 ⟨rfl, rfl⟩))
            go_ret
            exact ⟨by simp [*, frm, inR, bareEq, nU, nT, nW, nC], hA.out _ _⟩
          · have gy : (y == 0) = false := by simpa using zy
            go_enter Try.func25, Try.ntmps25
            go_wp2_with (first
              | (go_at_call 58; refine Calls.mono (hn.out _) ?_; rintro e w2 ⟨rfl, rfl⟩))
            go_ret
            exact ⟨by simp [*, frm, inR, bareEq, nU, nT, nW, nC], hA.out _ _⟩
        · have gx : (x == 0) = false := by simpa using zx
          go_enter Try.func25, Try.ntmps25
          go_wp2_with (first
            | (go_at_call 58; refine Calls.mono (hn.out _) ?_; rintro e w2 ⟨rfl, rfl⟩))
          go_ret
          exact ⟨by simp [*, frm, inR, bareEq, nU, nT, nW, nC], hA.out _ _⟩
      · have gh : (h == 0) = false := by simpa using zh
        go_enter Try.func25, Try.ntmps25
        go_wp2_with (first
          | (go_at_call 58; refine Calls.mono (hn.out _) ?_; rintro e w2 ⟨rfl, rfl⟩))
        go_ret
        exact ⟨by simp [*, frm, inR, bareEq, nU, nT, nW, nC], hA.out _ _⟩
    · have gt : (t == 0) = false := by simpa using zt
      go_enter Try.func25, Try.ntmps25
      go_wp2_with (first
        | (go_at_call 58; refine Calls.mono (hn.out _) ?_; rintro e w2 ⟨rfl, rfl⟩))
      go_ret
      exact ⟨by simp [*, frm, inR, bareEq, nU, nT, nW, nC], hA.out _ _⟩
  · have gu : (u == 0) = false := by simpa using zu
    go_enter Try.func25, Try.ntmps25
    go_wp2_with (first
      | (go_at_call 58; refine Calls.mono (hn.out _) ?_; rintro e w2 ⟨rfl, rfl⟩))
    go_ret
    exact ⟨by simp [*, frm, inR, bareEq, nU, nT, nW, nC], hA.out _ _⟩

set_option maxRecDepth 100000 in
set_option maxHeartbeats 4000000 in
theorem formed25 (k u t h x y : Int) (w : World) : Calls Try.prog 25 #[cmd k u t h x y] w fun e w' => e = .returned (.bool (frm k u t h x y)) ∧ Below w.heap.size w w' := by
  by_cases h0 : 1 ≤ k ∧ k ≤ 6
  · have hc : k = 1 ∨ k = 2 ∨ k = 3 ∨ k = 4 ∨ k = 5 ∨ k = 6 := by omega
    rcases hc with rfl | rfl | rfl | rfl | rfl | rfl
    · exact formed25_1 u t h x y w
    · exact formed25_2 u t h x y w
    · exact formed25_3 u t h x y w
    · exact formed25_4 u t h x y w
    · exact formed25_5 u t h x y w
    · exact formed25_6 u t h x y w
  · have hn : Hid (∀ W, Calls Try.prog 58 #[.int .i64 k] W fun e w' => e = .returned (.tuple #[.bool (nU k), .bool (nT k), .bool (nW k), .bool (nC k)]) ∧ w' = W) := fun W => names58 k W
    have HV : Hid (frm k u t h x y = false) := by
      unfold frm
      have : (decide (1 ≤ k) && decide (k ≤ 6)) = false := by simp; omega
      rw [this]; rfl
    rw [HV.out]
    unfold cmd
    have hc : (k < 1) ∨ ((k < 1) = False ∧ 6 < k) := by simp; omega
    clear h0
    generalize nU k = a at *
    generalize nT k = b at *
    generalize nW k = c at *
    generalize nC k = d at *
    rcases hc with h1 | ⟨h1, h2⟩
    all_goals
      go_enter Try.func25, Try.ntmps25
      go_wp2_with (go_at_call 58; refine Calls.mono (hn.out _) ?_; rintro e w2 ⟨rfl, rfl⟩)
      go_ret
      exact ⟨rfl, (Below.refl _ _).alloc (Nat.le_refl _) _⟩
end Go.Proofs.Ytpiflgbcbhnmpaa
