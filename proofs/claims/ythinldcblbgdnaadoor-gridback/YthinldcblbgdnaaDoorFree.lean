/- Rock and free ground; signs. -/
import Derived.Test.YthinldcblbgdnaaDoorInside
namespace Go.Proofs.YthinldcblbgdnaaDoor
open Go.RowKit
theorem formed_of {m : Mp} (h : formed m = true) : (4 ≤ m.W ∧ m.W ≤ 20) ∧ (4 ≤ m.H ∧ m.H ≤ 20) ∧ (m.ts.length : Int) = m.W * m.H ∧ (m.os.length : Int) = m.W * m.H ∧ tilesTo m m.ts.length = true := by
  simp only [formed, Bool.and_eq_true, beq_iff_eq] at h
  obtain ⟨⟨⟨⟨h1, h2⟩, h3⟩, h4⟩, h5⟩ := h
  exact ⟨side_of h1, side_of h2, h3, h4, h5⟩
theorem holds_of {m : Mp} {x y : Int} (h : holds m x y = true) : 0 ≤ x ∧ x < m.W ∧ 0 ≤ y ∧ y < m.H := by simpa [holds, and_assoc] using h
theorem place_lt {a b x y : Int} (ha : 4 ≤ a ∧ a ≤ 20) (hb : 4 ≤ b ∧ b ≤ 20) (h : 0 ≤ x ∧ x < a ∧ 0 ≤ y ∧ y < b) : 0 ≤ y * a ∧ y * a ≤ 400 ∧ y * a + x < a * b := by
  have h1 := Int.mul_nonneg h.2.2.1 (show 0 ≤ a by omega)
  have h2 := Int.mul_le_mul_of_nonneg_right (show y ≤ b - 1 by omega) (show 0 ≤ a by omega)
  have h3 : (b - 1) * a = a * b - a := by rw [Int.sub_mul, Int.mul_comm b a]; omega
  have h4 := (prod_bound ha hb).2
  omega
set_option maxHeartbeats 1000000 in
theorem rock_any (m : Mp) (v : Value) (x y : Int) (w : World) (hm : MapAt w v m) (hf : formed m = true) (hh : holds m x y = true) : Calls Tryd.prog 41 #[v, C x y] w fun e w' => Out w (.bool (rock m x y)) e w' := by
  obtain ⟨f1, f2, f3, f4, f5⟩ := formed_of hf
  have hp := holds_of hh
  have hq := place_lt f1 f2 hp
  unfold rock Out C
  obtain ⟨p, c, q, d, rfl, hT, hO⟩ := hm
  obtain ⟨a, b, ts, os⟩ := m
  simp only at *
  obtain ⟨sb, so, rfl, hc⟩ := hT.pos (y * a + x).toNat (by omega)
  have hc0 := hc (y * a + x).toNat (by omega)
  have hsb := lt_of_cell hc0
  have HC : Hid (∀ W, Below w.heap.size w W → W.cell? ⟨sb, so + (y * a + x).toNat, none⟩ = some (.int .i64 (ts.getD (y * a + x).toNat 0))) := fun W h => by rw [h.cell (p := ⟨sb, so + (y * a + x).toNat, none⟩) hsb]; exact hc0
  have k1 : 0 ≤ y * a + x := by omega
  have k2 : y * a + x < (ts.length : Int) := by omega
  obtain ⟨q1, q2, q3⟩ := hq
  obtain ⟨p1, p2, p3, p4⟩ := hp
  have k3 : y * a + x ≤ 9223372036854775807 := by omega
  have q4 : y * a ≤ 9223372036854775807 := by omega
  clear hT hO hc hc0 hf hh f3 f4 f5
  generalize ts.getD (y * a + x).toNat 0 = t at *
  generalize ts.length = M at *
  generalize os.length = N at *
  go_enter Tryd.func41, Tryd.ntmps41
  go_upto_region 1 with (fail)
  obtain ⟨W, hW⟩ : ∃ W, W = (w.alloc (.cells #[Value.int .i64 a, .int .i64 b, .slice (some ⟨sb, so, none⟩) M c, .slice q N d] 24)).alloc (.cells #[Value.int .i64 x, .int .i64 y] 35) := ⟨_, rfl⟩
  obtain ⟨B, hB⟩ : ∃ B, B = w.heap.size := ⟨_, rfl⟩
  rw [← hW, ← hB]
  obtain ⟨hk, hbe⟩ := map_cell_box w a b _ _ x y W B hW hB
  obtain ⟨a0, a1, a2, a3, a4, a5⟩ := hk W (Below.refl _ _)
  have HBE := hid (hbe W (Below.refl _ _))
  have hcell := HC.out W HBE.out
  clear hW hB hk hbe HC
  go_wp2
  go_ret
  exact ⟨rfl, HBE.out⟩
def free (m : Mp) (x y : Int) : Bool := formed m && holds m x y && !rock m x y
set_option maxHeartbeats 1000000 in
theorem free_any (m : Mp) (v : Value) (x y : Int) (w : World) (hm : MapAt w v m) : Calls Tryd.prog 19 #[v, C x y] w fun e w' => Out w (.bool (free m x y)) e w' := by
  have h17 : Hid (∀ W v, MapAt W v m → Calls Tryd.prog 17 #[v, C x y] W fun e w' => Out W (.bool (formed m && holds m x y)) e w') := fun W v h => inside_any m v x y W h
  have h41 : Hid (∀ W v, (formed m && holds m x y) = true → MapAt W v m → Calls Tryd.prog 41 #[v, C x y] W fun e w' => Out W (.bool (rock m x y)) e w') := fun W v h hm => rock_any m v x y W hm (by simp at h; exact h.1) (by simp at h; exact h.2)
  have HM := hid (fun W (h : Below w.heap.size w W) => hm.below h)
  unfold free
  obtain ⟨p, c, q, d, rfl, -, -⟩ := hm
  generalize (formed m && holds m x y) = F at *
  generalize rock m x y = G at *
  obtain ⟨a, b, ts, os⟩ := m
  simp only at HM ⊢
  generalize ts.length = M at *
  generalize os.length = N at *
  unfold C at *
  rcases F with _ | _
  · rw [Bool.false_and]
    go_enter Tryd.func19, Tryd.ntmps19
    go_upto_region 1 with (fail)
    obtain ⟨W, hW⟩ : ∃ W, W = (w.alloc (.cells #[Value.int .i64 a, .int .i64 b, .slice p M c, .slice q N d] 24)).alloc (.cells #[Value.int .i64 x, .int .i64 y] 35) := ⟨_, rfl⟩
    obtain ⟨B, hB⟩ : ∃ B, B = w.heap.size := ⟨_, rfl⟩
    rw [← hW, ← hB]
    obtain ⟨hk, hbe⟩ := map_cell_box w a b _ _ x y W B hW hB
    obtain ⟨a0, a1, a2, a3, a4, a5⟩ := hk W (Below.refl _ _)
    have HBE := hid hbe
    clear hW hB hk hbe
    go_wp2_with fail
    refine Calls.mono (h17.out _ _ (HM.out _ (HBE.out W (Below.refl _ _)))) ?_
    rintro e w1 ⟨rfl, hb1⟩
    have HB1 := hid hb1
    clear hb1
    go_wp2
    go_ret
    exact ⟨rfl, HBE.out _ HB1.out⟩
  · rw [Bool.true_and]
    go_enter Tryd.func19, Tryd.ntmps19
    go_upto_region 1 with (fail)
    obtain ⟨W, hW⟩ : ∃ W, W = (w.alloc (.cells #[Value.int .i64 a, .int .i64 b, .slice p M c, .slice q N d] 24)).alloc (.cells #[Value.int .i64 x, .int .i64 y] 35) := ⟨_, rfl⟩
    obtain ⟨B, hB⟩ : ∃ B, B = w.heap.size := ⟨_, rfl⟩
    rw [← hW, ← hB]
    obtain ⟨hk, hbe⟩ := map_cell_box w a b _ _ x y W B hW hB
    obtain ⟨a0, a1, a2, a3, a4, a5⟩ := hk W (Below.refl _ _)
    have HK := hid hk
    have HBE := hid hbe
    clear hW hB hk hbe
    go_wp2_with fail
    refine Calls.mono (h17.out _ _ (HM.out _ (HBE.out W (Below.refl _ _)))) ?_
    rintro e w1 ⟨rfl, hb1⟩
    obtain ⟨b0, b1, b2, b3, b4, b5⟩ := HK.out w1 hb1
    have HB1 := hid hb1
    clear hb1
    go_wp2_with fail
    refine Calls.mono (h41.out _ _ (by first | rfl | trivial) (HM.out _ (HBE.out w1 HB1.out))) ?_
    rintro e w2 ⟨rfl, hb2⟩
    have HB2 := hid (HB1.out.trans (hb2.mono HB1.out.size))
    clear hb2
    go_wp2
    go_ret
    exact ⟨rfl, HBE.out _ HB2.out⟩
/-- The tile, the ore and whether there is such a sign. -/
def sgnT (b : Nat) : Int := if b = 46 then 0 else if b = 35 then 1 else if b = 36 then 2 else if 49 ≤ b ∧ b ≤ 57 then 2 else 0
def sgnO (b : Nat) : Int := if 49 ≤ b ∧ b ≤ 57 then ((b : Int) - 48) * 10 else 0
def sgnK (b : Nat) : Bool := b == 46 || b == 35 || b == 36 || decide (49 ≤ b) && decide (b ≤ 57)
set_option maxHeartbeats 1000000 in
theorem sign_any (b : Nat) (hb : b < 256) (w : World) : Calls Tryd.prog 53 #[.int .u8 (b : Int)] w fun e w' => e = .returned (.tuple #[.int .i64 (sgnT b), .int .i64 (sgnO b), .bool (sgnK b)]) ∧ w' = w := by
  unfold sgnT sgnO sgnK
  by_cases h1 : b = 46
  · subst h1
    go_enter Tryd.func53, Tryd.ntmps53
    go_wp2
    go_ret3
    exact ⟨rfl, rfl⟩
  · by_cases h2 : b = 35
    · subst h2
      go_enter Tryd.func53, Tryd.ntmps53
      go_wp2
      go_ret3
      exact ⟨rfl, rfl⟩
    · by_cases h3 : b = 36
      · subst h3
        go_enter Tryd.func53, Tryd.ntmps53
        go_wp2
        go_ret3
        exact ⟨rfl, rfl⟩
      · have g1 : ((b : Int) == 46) = false := by simp; omega
        have g2 : ((b : Int) == 35) = false := by simp; omega
        have g3 : ((b : Int) == 36) = false := by simp; omega
        by_cases h4 : 49 ≤ b
        · have g4 : (49 : Int) ≤ (b : Int) := by omega
          by_cases h5 : b ≤ 57
          · have g5 : (b : Int) ≤ 57 := by omega
            have e1 : (IntKind.u8.wrap ((b : Int) - 48)) = (b : Int) - 48 := by simp [IntKind.wrap, IntKind.bits, IntKind.signed]; omega
            go_enter Tryd.func53, Tryd.ntmps53
            go_wp2
            go_ret3
            exact ⟨by simp, rfl⟩
          · have g5 : ((b : Int) ≤ 57) = False := by simp; omega
            go_enter Tryd.func53, Tryd.ntmps53
            go_wp2
            go_ret3
            exact ⟨by simp [h1, h2, h3], rfl⟩
        · have g4 : ((49 : Int) ≤ (b : Int)) = False := by simp; omega
          go_enter Tryd.func53, Tryd.ntmps53
          go_wp2
          go_ret3
          exact ⟨by simp [h1, h2, h3], rfl⟩
end Go.Proofs.YthinldcblbgdnaaDoor
