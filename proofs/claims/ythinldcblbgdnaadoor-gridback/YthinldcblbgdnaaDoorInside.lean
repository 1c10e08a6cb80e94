/- Cells of a map: inside, rock, free. -/
import Derived.Test.YthinldcblbgdnaaDoorFormed
namespace Go.Proofs.YthinldcblbgdnaaDoor
open Go.RowKit
def holds (m : Mp) (x y : Int) : Bool := decide (0 ≤ x) && decide (x < m.W) && decide (0 ≤ y) && decide (y < m.H)
def rock (m : Mp) (x y : Int) : Bool := m.ts.getD (y * m.W + x).toNat 0 == 1
/-- A map and a cell were laid into blocks of their own. -/
theorem map_cell_box (w : World) (a b : Int) (s t : Value) (x y : Int) (W : World) (B : Nat) (hW : W = (w.alloc (.cells #[Value.int .i64 a, .int .i64 b, s, t] 24)).alloc (.cells #[Value.int .i64 x, .int .i64 y] 35)) (hB : B = w.heap.size) :
    (∀ w', Below W.heap.size W w' → w'.cell? ⟨B, 0, none⟩ = some (.int .i64 a) ∧ w'.cell? ⟨B, 1, none⟩ = some (.int .i64 b) ∧ w'.cell? ⟨B, 2, none⟩ = some s ∧ w'.cell? ⟨B, 3, none⟩ = some t ∧ w'.cell? ⟨B + 1, 0, none⟩ = some (.int .i64 x) ∧ w'.cell? ⟨B + 1, 1, none⟩ = some (.int .i64 y)) ∧ (∀ w', Below W.heap.size W w' → Below w.heap.size w w') := by
  have hsz : W.heap.size = B + 2 := by rw [hW, hB]; simp
  have hbe : Below w.heap.size w W := by rw [hW]; exact ((Below.refl _ _).alloc (Nat.le_refl _) _).alloc (by simp) _
  have b1 : Blk W B [Value.int .i64 a, .int .i64 b, s, t] 24 := by rw [hW, hB]; exact (Blk.new _ _ _).alloc _
  have b2 : Blk W (B + 1) [Value.int .i64 x, .int .i64 y] 35 := by rw [hW]; exact Blk.new' _ _ _ _ (by simp [hB])
  refine ⟨fun w' h => ?_, fun w' h => hbe.trans (h.mono (by omega))⟩
  have c1 := b1.below h (by omega)
  have c2 := b2.below h (by omega)
  exact ⟨c1.cell 0, c1.cell 1, c1.cell 2, c1.cell 3, c2.cell 0, c2.cell 1⟩
set_option maxHeartbeats 1000000 in
theorem holds_any (m : Mp) (s t : Value) (x y : Int) (w : World) : Calls Tryd.prog 39 #[.agg #[.int .i64 m.W, .int .i64 m.H, s, t], C x y] w fun e w' => Out w (.bool (holds m x y)) e w' := by
  obtain ⟨a, b, ts, os⟩ := m
  have hbe : Hid (∀ o1 o2, Below w.heap.size w ((w.alloc o1).alloc o2)) := fun o1 o2 => ((Below.refl _ _).alloc (Nat.le_refl _) _).alloc (by simp) _
  unfold holds C Out
  simp only
  by_cases h1 : 0 ≤ x
  · by_cases h2 : x < a
    · by_cases h3 : 0 ≤ y
      · go_enter Tryd.func39, Tryd.ntmps39
        go_wp2
        go_ret
        exact ⟨by simp [h1, h2, h3], hbe.out _ _⟩
      · have g3 : (0 ≤ y) = False := by simp; omega
        go_enter Tryd.func39, Tryd.ntmps39
        go_wp2
        go_ret
        exact ⟨by simp, hbe.out _ _⟩
    · have g2 : (x < a) = False := by simp; omega
      go_enter Tryd.func39, Tryd.ntmps39
      go_wp2
      go_ret
      exact ⟨by simp, hbe.out _ _⟩
  · have g1 : (0 ≤ x) = False := by simp; omega
    go_enter Tryd.func39, Tryd.ntmps39
    go_wp2
    go_ret
    exact ⟨by simp, hbe.out _ _⟩
set_option maxHeartbeats 1000000 in
theorem inside_any (m : Mp) (v : Value) (x y : Int) (w : World) (hm : MapAt w v m) : Calls Tryd.prog 17 #[v, C x y] w fun e w' => Out w (.bool (formed m && holds m x y)) e w' := by
  have h15 : Hid (∀ W v, MapAt W v m → Calls Tryd.prog 15 #[v] W fun e w' => Out W (.bool (formed m)) e w') := fun W v h => formed_any m v W h
  have h39 : Hid (∀ s t W, Calls Tryd.prog 39 #[.agg #[.int .i64 m.W, .int .i64 m.H, s, t], C x y] W fun e w' => Out W (.bool (holds m x y)) e w') := fun s t W => holds_any m s t x y W
  have HM := hid (fun W (h : Below w.heap.size w W) => hm.below h)
  obtain ⟨p, c, q, d, rfl, -, -⟩ := hm
  generalize formed m = F at *
  generalize holds m x y = G at *
  obtain ⟨a, b, ts, os⟩ := m
  simp only at HM h39 ⊢
  generalize ts.length = M at *
  generalize os.length = N at *
  unfold C at *
  rcases F with _ | _
  · go_enter Tryd.func17, Tryd.ntmps17
    go_upto_region 1 with (fail)
    obtain ⟨W, hW⟩ : ∃ W, W = (w.alloc (.cells #[Value.int .i64 a, .int .i64 b, .slice p M c, .slice q N d] 24)).alloc (.cells #[Value.int .i64 x, .int .i64 y] 35) := ⟨_, rfl⟩
    obtain ⟨B, hB⟩ : ∃ B, B = w.heap.size := ⟨_, rfl⟩
    rw [← hW, ← hB]
    obtain ⟨hk, hbe⟩ := map_cell_box w a b _ _ x y W B hW hB
    obtain ⟨a0, a1, a2, a3, a4, a5⟩ := hk W (Below.refl _ _)
    have HBE := hid hbe
    clear hW hB hk hbe
    go_wp2_with fail
    refine Calls.mono (h15.out _ _ (HM.out _ (HBE.out W (Below.refl _ _)))) ?_
    rintro e w1 ⟨rfl, hb1⟩
    have HB1 := hid hb1
    clear hb1
    go_wp2
    go_ret
    exact ⟨rfl, HBE.out _ HB1.out⟩
  · rw [Bool.true_and]
    go_enter Tryd.func17, Tryd.ntmps17
    go_upto_region 1 with (fail)
    obtain ⟨W, hW⟩ : ∃ W, W = (w.alloc (.cells #[Value.int .i64 a, .int .i64 b, .slice p M c, .slice q N d] 24)).alloc (.cells #[Value.int .i64 x, .int .i64 y] 35) := ⟨_, rfl⟩
    obtain ⟨B, hB⟩ : ∃ B, B = w.heap.size := ⟨_, rfl⟩
    rw [← hW, ← hB]
    obtain ⟨hk, hbe⟩ := map_cell_box w a b _ _ x y W B hW hB
    obtain ⟨a0, a1, a2, a3, a4, a5⟩ := hk W (Below.refl _ _)
    have HK := hid hk
    have HBE := hid hbe
    clear hW hB hk hbe
    go_wp2_with fail
    refine Calls.mono (h15.out _ _ (HM.out _ (HBE.out W (Below.refl _ _)))) ?_
    rintro e w1 ⟨rfl, hb1⟩
    obtain ⟨b0, b1, b2, b3, b4, b5⟩ := HK.out w1 hb1
    have HB1 := hid hb1
    clear hb1
    go_wp2_with fail
    refine Calls.mono (h39.out _ _ _) ?_
    rintro e w2 ⟨rfl, hb2⟩
    have HB2 := hid (HB1.out.trans (hb2.mono HB1.out.size))
    clear hb2
    go_wp2
    go_ret
    exact ⟨rfl, HBE.out _ HB2.out⟩
end Go.Proofs.YthinldcblbgdnaaDoor
