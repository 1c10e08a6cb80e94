/- What Formed answers of any command. -/
import Derived.Test.YtpiflgbcbhnmpaaFormed
namespace Go.Proofs.Ytpiflgbcbhnmpaa
open Go.RowKit
/-- Is a command formed? -/
def bareEq (k u t h x y : Int) : Bool := k == k && u == (if nU k then u else 0) && t == (if nT k then t else 0) && h == (if nW k then h else 0) && x == (if nC k then x else 0) && y == (if nC k then y else 0)
def frm (k u t h x y : Int) : Bool := decide (1 ≤ k) && decide (k ≤ 6) && inR u t h x y && bareEq k u t h x y
theorem start24 (w : World) (k u t h x y : Int) (W : World) (B : Nat) (hW : W = w.alloc (Obj.cells #[Value.int .i64 k, .int .i64 u, .int .i64 t, .int .i64 h, .int .i64 x, .int .i64 y] 52)) (hB : B = w.heap.size) :
    W.cell? ⟨B, 0, none⟩ = some (.int .i64 k) ∧ W.cell? ⟨B, 1, none⟩ = some (.int .i64 u) ∧ W.cell? ⟨B, 2, none⟩ = some (.int .i64 t) ∧ W.cell? ⟨B, 3, none⟩ = some (.int .i64 h) ∧ W.cell? ⟨B, 4, none⟩ = some (.int .i64 x) ∧ W.cell? ⟨B, 5, none⟩ = some (.int .i64 y) ∧
    Hid (∀ w', Below W.heap.size W w' → w'.cell? ⟨B, 0, none⟩ = some (.int .i64 k) ∧ w'.cell? ⟨B, 1, none⟩ = some (.int .i64 u) ∧ w'.cell? ⟨B, 2, none⟩ = some (.int .i64 t) ∧ w'.cell? ⟨B, 3, none⟩ = some (.int .i64 h) ∧ w'.cell? ⟨B, 4, none⟩ = some (.int .i64 x) ∧ w'.cell? ⟨B, 5, none⟩ = some (.int .i64 y)) ∧
    (∀ w', Below W.heap.size W w' → Below w.heap.size w w') := by
  have hK : Blk W B [.int .i64 k, .int .i64 u, .int .i64 t, .int .i64 h, .int .i64 x, .int .i64 y] 52 := by subst hW hB; exact Blk.new w _ 52
  refine ⟨hK.cell 0, hK.cell 1, hK.cell 2, hK.cell 3, hK.cell 4, hK.cell 5, fun w' hw => ?_, fun w' hw => ?_⟩
  · have h' := hK.below hw hK.lt
    exact ⟨h'.cell 0, h'.cell 1, h'.cell 2, h'.cell 3, h'.cell 4, h'.cell 5⟩
  · have h0 : Below w.heap.size w W := by subst hW; exact (Below.refl _ _).alloc (Nat.le_refl _) _
    exact h0.trans (hw.mono h0.size)
set_option maxRecDepth 100000 in
set_option maxHeartbeats 2000000 in
theorem formed_any (k u t h x y : Int) (w : World) : Calls Try.prog 24 #[cmd k u t h x y] w fun e w' => e = .returned (.bool (frm k u t h x y)) ∧ Below w.heap.size w w' := by
  have h56 : Hid (∀ W, Calls Try.prog 56 #[cmd k u t h x y] W fun e w' => e = .returned (.bool (inR u t h x y)) ∧ Below W.heap.size W w') := fun W => inRange_any k u t h x y W
  have h57 : Hid (∀ W, Calls Try.prog 57 #[cmd k u t h x y] W fun e w' => e = .returned (cmd k (if nU k then u else 0) (if nT k then t else 0) (if nW k then h else 0) (if nC k then x else 0) (if nC k then y else 0)) ∧ Below W.heap.size W w') := fun W => bare_any k u t h x y W
  have hEq : Hid (∀ W, (binOp .eql 52 (cmd k u t h x y) (cmd k (if nU k then u else 0) (if nT k then t else 0) (if nW k then h else 0) (if nC k then x else 0) (if nC k then y else 0))).run Try.prog W = .ok (.bool (bareEq k u t h x y)) W) := fun W => eql_cmd W _ _ _ _ _ _ _ _ _ _ _ _
  unfold frm
  generalize bareEq k u t h x y = q at *
  generalize inR u t h x y = r at *
  unfold cmd at *
  generalize (if nU k then u else 0) = u' at *
  generalize (if nT k then t else 0) = t' at *
  generalize (if nW k then h else 0) = h' at *
  generalize (if nC k then x else 0) = x' at *
  generalize (if nC k then y else 0) = y' at *
  have hEq' := hEq.out
  clear hEq
  rcases Bool.eq_false_or_eq_true (decide (1 ≤ k)) with e1 | e1
  · rcases Bool.eq_false_or_eq_true (decide (k ≤ 6)) with e2 | e2
    · rcases r with _ | _
      · rw [e1, e2]
        go_enter Try.func24, Try.ntmps24
        go_upto_region 1 with (fail)
        obtain ⟨W, hW⟩ : ∃ W, W = w.alloc (Obj.cells #[Value.int .i64 k, .int .i64 u, .int .i64 t, .int .i64 h, .int .i64 x, .int .i64 y] 52) := ⟨_, rfl⟩
        obtain ⟨B, hB⟩ : ∃ B, B = w.heap.size := ⟨_, rfl⟩
        rw [← hW, ← hB]
        obtain ⟨a0, a1, a2, a3, a4, a5, HK, hbe⟩ := start24 w k u t h x y W B hW hB
        have HBE : Hid (∀ w', Below W.heap.size W w' → Below w.heap.size w w') := hbe
        clear hW hB hbe
        go_region_with (first
          | (go_at_call 56; refine Calls.mono (h56.out _) ?_; rintro e w1 ⟨rfl, hb1⟩; have hb1' : Below W.heap.size W w1 := ((Below.refl _ _).drew).trans hb1; obtain ⟨b0, b1, b2, b3, b4, b5⟩ := HK.out w1 hb1')
          | (go_at_call 57; refine Calls.mono (h57.out _) ?_; rintro e w2 ⟨rfl, hb2⟩; have hb2' : Below W.heap.size W w2 := hb1'.trans (hb2.mono hb1'.size); obtain ⟨d0, d1, d2, d3, d4, d5⟩ := HK.out w2 hb2'; clear hb2))
        all_goals
          go_wp2
          go_ret
          exact ⟨rfl, HBE.out _ hb1'⟩
      · rw [e1, e2, Bool.true_and, Bool.true_and, Bool.true_and]
        go_enter Try.func24, Try.ntmps24
        go_upto_region 1 with (fail)
        obtain ⟨W, hW⟩ : ∃ W, W = w.alloc (Obj.cells #[Value.int .i64 k, .int .i64 u, .int .i64 t, .int .i64 h, .int .i64 x, .int .i64 y] 52) := ⟨_, rfl⟩
        obtain ⟨B, hB⟩ : ∃ B, B = w.heap.size := ⟨_, rfl⟩
        rw [← hW, ← hB]
        obtain ⟨a0, a1, a2, a3, a4, a5, HK, hbe⟩ := start24 w k u t h x y W B hW hB
        have HBE : Hid (∀ w', Below W.heap.size W w' → Below w.heap.size w w') := hbe
        clear hW hB hbe
        go_region_with (first
          | (go_at_call 56; refine Calls.mono (h56.out _) ?_; rintro e w1 ⟨rfl, hb1⟩; have hb1' : Below W.heap.size W w1 := ((Below.refl _ _).drew).trans hb1; obtain ⟨b0, b1, b2, b3, b4, b5⟩ := HK.out w1 hb1')
          | (go_at_call 57; refine Calls.mono (h57.out _) ?_; rintro e w2 ⟨rfl, hb2⟩; have hb2' : Below W.heap.size W w2 := hb1'.trans (hb2.mono hb1'.size); obtain ⟨d0, d1, d2, d3, d4, d5⟩ := HK.out w2 hb2'; clear hb2))
        all_goals
          go_wp2
          go_ret
          exact ⟨rfl, HBE.out _ hb2'⟩
    · rw [e1, e2, Bool.and_false, Bool.false_and, Bool.false_and]
      go_enter Try.func24, Try.ntmps24
      go_upto_region 1 with (fail)
      obtain ⟨W, hW⟩ : ∃ W, W = w.alloc (Obj.cells #[Value.int .i64 k, .int .i64 u, .int .i64 t, .int .i64 h, .int .i64 x, .int .i64 y] 52) := ⟨_, rfl⟩
      obtain ⟨B, hB⟩ : ∃ B, B = w.heap.size := ⟨_, rfl⟩
      rw [← hW, ← hB]
      obtain ⟨a0, a1, a2, a3, a4, a5, HK, hbe⟩ := start24 w k u t h x y W B hW hB
      have HBE : Hid (∀ w', Below W.heap.size W w' → Below w.heap.size w w') := hbe
      clear hW hB hbe
      go_region_with (first
        | (go_at_call 56; refine Calls.mono (h56.out _) ?_; rintro e w1 ⟨rfl, hb1⟩; have hb1' : Below W.heap.size W w1 := ((Below.refl _ _).drew).trans hb1; obtain ⟨b0, b1, b2, b3, b4, b5⟩ := HK.out w1 hb1')
        | (go_at_call 57; refine Calls.mono (h57.out _) ?_; rintro e w2 ⟨rfl, hb2⟩; have hb2' : Below W.heap.size W w2 := hb1'.trans (hb2.mono hb1'.size); obtain ⟨d0, d1, d2, d3, d4, d5⟩ := HK.out w2 hb2'; clear hb2))
      all_goals
        go_wp2
        go_ret
        exact ⟨rfl, HBE.out _ ((Below.refl _ _).drew)⟩
  · rw [e1, Bool.false_and, Bool.false_and, Bool.false_and]
    go_enter Try.func24, Try.ntmps24
    go_upto_region 1 with (fail)
    obtain ⟨W, hW⟩ : ∃ W, W = w.alloc (Obj.cells #[Value.int .i64 k, .int .i64 u, .int .i64 t, .int .i64 h, .int .i64 x, .int .i64 y] 52) := ⟨_, rfl⟩
    obtain ⟨B, hB⟩ : ∃ B, B = w.heap.size := ⟨_, rfl⟩
    rw [← hW, ← hB]
    obtain ⟨a0, a1, a2, a3, a4, a5, HK, hbe⟩ := start24 w k u t h x y W B hW hB
    have HBE : Hid (∀ w', Below W.heap.size W w' → Below w.heap.size w w') := hbe
    clear hW hB hbe
    go_quiet (fail)
    go_wp2
    go_ret
    exact ⟨rfl, HBE.out _ (Below.drewN (Below.refl _ _) _)⟩
end Go.Proofs.Ytpiflgbcbhnmpaa
