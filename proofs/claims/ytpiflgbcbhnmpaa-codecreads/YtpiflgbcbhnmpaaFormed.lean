/- What Formed and what it calls answer. -/
import Derived.Test.YtpiflgbcbhnmpaaRsgn
import Derived.Test.YtpiflgbcbhnmpaaMem
import Derived.Deep.RegionWith
/- What Formed and what it calls answer. -/
namespace Go.Proofs.Ytpiflgbcbhnmpaa
open Go.RowKit
/-- A command as a value. -/
def cmd (k u t h x y : Int) : Value := .agg #[.int .i64 k, .int .i64 u, .int .i64 t, .int .i64 h, .int .i64 x, .int .i64 y]
/-- Which fields a kind names. -/
def nU (k : Int) : Bool := k == 1 || k == 3 || k == 2 || k == 4 || k == 5
def nT (k : Int) : Bool := k == 2
def nW (k : Int) : Bool := k == 4
def nC (k : Int) : Bool := k == 1 || k == 3
theorem size118 : (Try.prog.info? 118).map (·.size) = some 4 := by kernel_rfl
theorem size52 : (Try.prog.info? 52).map (·.size) = some 6 := by kernel_rfl
set_option maxRecDepth 100000 in
theorem namedBy_any (k : Int) (w : World) : Calls Try.prog 88 #[.int .i64 k] w fun e w' => e = .returned (.agg #[.bool (nU k), .bool (nT k), .bool (nW k), .bool (nC k)]) ∧ Below w.heap.size w w' := by
  have hc : k = 1 ∨ k = 2 ∨ k = 3 ∨ k = 4 ∨ k = 5 ∨ ((k == 1) = false ∧ (k == 2) = false ∧ (k == 3) = false ∧ (k == 4) = false ∧ (k == 5) = false) := by simp; omega
  rcases hc with rfl | rfl | rfl | rfl | rfl | ⟨h1, h2, h3, h4, h5⟩
  case' inr.inr.inr.inr.inr => rw [show nU k = false by simp [nU, h1, h2, h3, h4, h5], show nT k = false by simp [nT, h2], show nW k = false by simp [nW, h4], show nC k = false by simp [nC, h1, h3]]
  all_goals
    go_enter Try.func88, Try.ntmps88
    go_wp2
    exact bodyPost_ret (results_array Try.results88 rfl (Blk.new _ [_, _, _, _] _) Try.underlying118 rfl size118) rfl ⟨rfl, (Below.refl _ _).alloc (Nat.le_refl _) _⟩
theorem within_any (a b : Int) (w : World) : Calls Try.prog 82 #[.int .i64 a, .int .i64 b] w fun e w' => e = .returned (.bool (decide (0 ≤ a) && decide (a ≤ b))) ∧ w' = w := by
  by_cases h : 0 ≤ a
  · have e : decide (0 ≤ a) = true := by simpa using h
    rw [e, Bool.true_and]
    go_enter Try.func82, Try.ntmps82
    go_wp2
    go_ret
    exact ⟨rfl, rfl⟩
  · have e : decide (0 ≤ a) = false := by simpa using h
    rw [e, Bool.false_and]
    go_enter Try.func82, Try.ntmps82
    go_wp2
    go_ret
    exact ⟨rfl, rfl⟩
end Go.Proofs.Ytpiflgbcbhnmpaa
/- What Formed answers. -/
namespace Go.Proofs.Ytpiflgbcbhnmpaa
open Go.RowKit
def rng (a b : Int) : Bool := decide (0 ≤ a) && decide (a ≤ b)
/-- Are a command's fields in their ranges? -/
def inR (u t h x y : Int) : Bool := rng u 2147483647 && rng t 2147483647 && rng h 4 && rng x 19 && rng y 19
set_option maxRecDepth 100000 in
set_option maxHeartbeats 1000000 in
theorem inRange_any (k u t h x y : Int) (w : World) : Calls Try.prog 56 #[cmd k u t h x y] w fun e w' => e = .returned (.bool (inR u t h x y)) ∧ Below w.heap.size w w' := by
  have hw : Hid (∀ a b W, Calls Try.prog 82 #[.int .i64 a, .int .i64 b] W fun e w' => e = .returned (.bool (rng a b)) ∧ w' = W) := fun a b W => within_any a b W
  have hA : Hid (∀ W : World, ∀ o, Below W.heap.size W (W.alloc o)) := fun W o => (Below.refl _ _).alloc (Nat.le_refl _) _
  unfold cmd inR
  rcases e1 : rng u 2147483647 with _ | _
  · go_enter Try.func56, Try.ntmps56
    go_wp2_with (go_at_call 82; refine Calls.mono (hw.out _ _ _) ?_; rintro e w' ⟨rfl, rfl⟩)
    go_ret
    exact ⟨rfl, hA.out _ _⟩
  rcases e2 : rng t 2147483647 with _ | _
  · go_enter Try.func56, Try.ntmps56
    go_wp2_with (go_at_call 82; refine Calls.mono (hw.out _ _ _) ?_; rintro e w' ⟨rfl, rfl⟩)
    go_ret
    exact ⟨rfl, hA.out _ _⟩
  rcases e3 : rng h 4 with _ | _
  · go_enter Try.func56, Try.ntmps56
    go_wp2_with (go_at_call 82; refine Calls.mono (hw.out _ _ _) ?_; rintro e w' ⟨rfl, rfl⟩)
    go_ret
    exact ⟨rfl, hA.out _ _⟩
  rcases e4 : rng x 19 with _ | _
  · go_enter Try.func56, Try.ntmps56
    go_wp2_with (go_at_call 82; refine Calls.mono (hw.out _ _ _) ?_; rintro e w' ⟨rfl, rfl⟩)
    go_ret
    exact ⟨rfl, hA.out _ _⟩
  · go_enter Try.func56, Try.ntmps56
    go_wp2_with (go_at_call 82; refine Calls.mono (hw.out _ _ _) ?_; rintro e w' ⟨rfl, rfl⟩)
    go_ret
    exact ⟨rfl, hA.out _ _⟩
theorem eql_cmd (W : World) (k u t h x y k' u' t' h' x' y' : Int) : (binOp .eql 52 (cmd k u t h x y) (cmd k' u' t' h' x' y')).run Try.prog W = .ok (.bool (k == k' && u == u' && t == t' && h == h' && x == x' && y == y')) W := by
  unfold cmd
  simp [go_sem]
  by_cases h1 : k = k' <;> by_cases h2 : u = u' <;> by_cases h3 : t = t' <;> by_cases h4 : h = h' <;> by_cases h5 : x = x' <;> by_cases h6 : y = y' <;> simp [h1, h2, h3, h4, h5, h6]
set_option maxRecDepth 100000 in
set_option maxHeartbeats 2000000 in
theorem bare_any (k u t h x y : Int) (w : World) : Calls Try.prog 57 #[cmd k u t h x y] w fun e w' => e = .returned (cmd k (if nU k then u else 0) (if nT k then t else 0) (if nW k then h else 0) (if nC k then x else 0) (if nC k then y else 0)) ∧ Below w.heap.size w w' := by
  have hn : Hid (∀ W, Calls Try.prog 88 #[.int .i64 k] W fun e w' => e = .returned (.agg #[.bool (nU k), .bool (nT k), .bool (nW k), .bool (nC k)]) ∧ Below W.heap.size W w') := fun W => namedBy_any k W
  have hcase : (nU k = true ∧ nT k = false ∧ nW k = false ∧ nC k = true) ∨ (nU k = true ∧ nT k = true ∧ nW k = false ∧ nC k = false) ∨ (nU k = true ∧ nT k = false ∧ nW k = true ∧ nC k = false) ∨ (nU k = true ∧ nT k = false ∧ nW k = false ∧ nC k = false) ∨ (nU k = false ∧ nT k = false ∧ nW k = false ∧ nC k = false) := by
    have hc : k = 1 ∨ k = 2 ∨ k = 3 ∨ k = 4 ∨ k = 5 ∨ ((k == 1) = false ∧ (k == 2) = false ∧ (k == 3) = false ∧ (k == 4) = false ∧ (k == 5) = false) := by simp; omega
    rcases hc with rfl | rfl | rfl | rfl | rfl | ⟨h1, h2, h3, h4, h5⟩
    case' inr.inr.inr.inr.inr => simp [nU, nT, nW, nC, h1, h2, h3, h4, h5]
    all_goals decide
  unfold cmd
  generalize nU k = a at *
  generalize nT k = b at *
  generalize nW k = c at *
  generalize nC k = d at *
  go_enter Try.func57, Try.ntmps57
  go_wp2_with fail
  refine Calls.mono (hn.out _) ?_
  rintro e w1 ⟨rfl, hb1⟩
  have hBc : Blk w1 w.heap.size [.int .i64 k, .int .i64 u, .int .i64 t, .int .i64 h, .int .i64 x, .int .i64 y] 52 := ((Blk.new w _ 52).alloc _).below hb1 (by simp; omega)
  have hBr : Blk w1 (w.heap.size + 1) [.int .i64 0, .int .i64 0, .int .i64 0, .int .i64 0, .int .i64 0, .int .i64 0] 52 := (Blk.new' _ _ 52 _ (by simp)).below hb1 (by simp)
  have hlt := hBr.lt
  have hbe : Below w.heap.size w w1 := (((Below.refl _ _).alloc (Nat.le_refl _) _).alloc (by simp) _).trans (hb1.mono (by simp; omega))
  have hsz : w.heap.size + 2 ≤ w1.heap.size := by omega
  clear hb1 hn
  have c0 := hBc.cell 0
  have c1 := hBc.cell 1
  have c2 := hBc.cell 2
  have c3 := hBc.cell 3
  have c4 := hBc.cell 4
  have c5 := hBc.cell 5
  simp only [List.getElem?_cons_zero, List.getElem?_cons_succ] at c0 c1 c2 c3 c4 c5
  have r0 := hBr.cell 0
  have r1 := hBr.cell 1
  have r2 := hBr.cell 2
  have r3 := hBr.cell 3
  have r4 := hBr.cell 4
  have r5 := hBr.cell 5
  simp only [List.getElem?_cons_zero, List.getElem?_cons_succ] at r0 r1 r2 r3 r4 r5
  have z0 := hBr.frozen 0
  have z1 := hBr.frozen 1
  have z2 := hBr.frozen 2
  have z3 := hBr.frozen 3
  have z4 := hBr.frozen 4
  have z5 := hBr.frozen 5
  obtain ⟨B, hB⟩ : ∃ B, B = w.heap.size := ⟨_, rfl⟩
  rw [← hB] at r0 r1 r2 r3 r4 r5 z0 z1 z2 z3 z4 z5 c0 c1 c2 c3 c4 c5 hsz hlt hBc hBr hbe
  simp only [← hB]
  have HB : Hid (B = w.heap.size) := hB
  have HBE : Hid (Below B w w1) := hbe
  have HBC : Hid (Blk w1 B [.int .i64 k, .int .i64 u, .int .i64 t, .int .i64 h, .int .i64 x, .int .i64 y] 52) := hBc
  have HBR : Hid (Blk w1 (B + 1) [.int .i64 0, .int .i64 0, .int .i64 0, .int .i64 0, .int .i64 0, .int .i64 0] 52) := hBr
  have n1 : B ≠ w1.heap.size := by omega
  have n2 : B ≠ w1.heap.size + 1 := by omega
  have n3 : B < w1.heap.size := by omega
  have n4 : B + 1 ≠ w1.heap.size := by omega
  have n5 : B + 1 ≠ w1.heap.size + 1 := by omega
  have n6 : B ≠ B + 1 := by omega
  clear hB hbe hBc hBr
  have HF2 : Hid (∀ (o1 o2 : Obj) (v0 v1 v2 v3 v4 v5 : Value) (tmps : Array Value), tmps.getD 2 undef = .pointer (some ⟨B + 1, 0, none⟩) → bodyPost Try.prog Try.f57 (fun e w' => e = .returned (.agg #[v0, v1, v2, v3, v4, v5]) ∧ Below w.heap.size w w') .ret { tmps := tmps, defers := [] } ((((((((w1.setCell ⟨B + 1, 0, none⟩ v0).setCell ⟨B + 1, 1, none⟩ v1).setCell ⟨B + 1, 2, none⟩ v2).setCell ⟨B + 1, 3, none⟩ v3).setCell ⟨B + 1, 4, none⟩ v4).setCell ⟨B + 1, 5, none⟩ v5).alloc o1).alloc o2)) := by
    intro o1 o2 v0 v1 v2 v3 v4 v5 tmps hp
    have f1 : Blk ((((((((w1.setCell ⟨B + 1, 0, none⟩ v0).setCell ⟨B + 1, 1, none⟩ v1).setCell ⟨B + 1, 2, none⟩ v2).setCell ⟨B + 1, 3, none⟩ v3).setCell ⟨B + 1, 4, none⟩ v4).setCell ⟨B + 1, 5, none⟩ v5).alloc o1).alloc o2) (B + 1) [v0, v1, v2, v3, v4, v5] 52 := (((((((HBR.out.set 0 v0).set 1 v1).set 2 v2).set 3 v3).set 4 v4).set 5 v5).alloc o1).alloc o2
    have f2 : Below B w (((((((w1.setCell ⟨B + 1, 0, none⟩ v0).setCell ⟨B + 1, 1, none⟩ v1).setCell ⟨B + 1, 2, none⟩ v2).setCell ⟨B + 1, 3, none⟩ v3).setCell ⟨B + 1, 4, none⟩ v4).setCell ⟨B + 1, 5, none⟩ v5)) := (((((HBE.out.setCell (Nat.le_succ _) v0).setCell (Nat.le_succ _) v1).setCell (Nat.le_succ _) v2).setCell (Nat.le_succ _) v3).setCell (Nat.le_succ _) v4).setCell (Nat.le_succ _) v5
    have hs := f2.size
    have hbs : B ≤ w.heap.size := by rw [HB.out]; exact Nat.le_refl _
    have f3 := (f2.alloc (by omega) o1).alloc (by simp only [World.alloc, Array.size_push]; omega) o2
    exact bodyPost_ret (results_array Try.results57 hp f1 Try.underlying52 rfl size52) rfl ⟨rfl, by rw [← HB.out]; exact f3⟩
  clear HBE HBC HBR
  rcases hcase with ⟨rfl, rfl, rfl, rfl⟩ | ⟨rfl, rfl, rfl, rfl⟩ | ⟨rfl, rfl, rfl, rfl⟩ | ⟨rfl, rfl, rfl, rfl⟩ | ⟨rfl, rfl, rfl, rfl⟩
  all_goals
    go_wp2
    exact HF2.out _ _ _ _ _ _ _ _ _ rfl
end Go.Proofs.Ytpiflgbcbhnmpaa
