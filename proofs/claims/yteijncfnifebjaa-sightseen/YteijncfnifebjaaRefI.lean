/- The reference: Inside, Tile, Free. -/
import Derived.Test.YteijncfnifebjaaRefF
namespace Go.Proofs.Yteijncfnifebjaa
open Go.RowKit
/-- The tile of a cell inside. -/
def tileAt (m : Mp) (x y : Int) : Int := m.ts.getD (y * m.W + x).toNat 0
set_option maxHeartbeats 1000000 in
theorem refInside_any (m : Mp) (v : Value) (x y : Int) (w : World) (hm : MapAt w v m) : Calls Try.prog 23 #[v, C x y] w fun e w' => Out w (.bool (formed m && holds m x y)) e w' := by
  have h15 : Hid (∀ W v, MapAt W v m → Calls Try.prog 24 #[v] W fun e w' => Out W (.bool (formed m)) e w') := fun W v h => refFormed_any m v W h
  have h39 : Hid (∀ s t W, Calls Try.prog 35 #[.agg #[.int .i64 m.W, .int .i64 m.H, s, t], C x y] W fun e w' => Out W (.bool (holds m x y)) e w') := fun s t W => refHolds_any m s t x y W
  have HM := hid (fun W (h : Below w.heap.size w W) => hm.below h)
  obtain ⟨p, c, q, d, rfl, -, -⟩ := hm
  generalize formed m = F at *
  generalize holds m x y = G at *
  obtain ⟨a, b, ts, os⟩ := m
  simp only at HM h39 ⊢
  generalize ts.length = M at *
  generalize os.length = N at *
  unfold C at *
  rcases F with _ | _
  · go_enter Try.func23, Try.ntmps23
    go_upto_region 1 with (fail)
    obtain ⟨W, hW⟩ : ∃ W, W = (w.alloc (.cells #[Value.int .i64 a, .int .i64 b, .slice p M c, .slice q N d] 24)).alloc (.cells #[Value.int .i64 x, .int .i64 y] 27) := ⟨_, rfl⟩
    obtain ⟨B, hB⟩ : ∃ B, B = w.heap.size := ⟨_, rfl⟩
    rw [← hW, ← hB]
    obtain ⟨hk, hbe⟩ := map_cell_box w a b _ _ x y W B hW hB
    obtain ⟨a0, a1, a2, a3, a4, a5⟩ := hk W (Below.refl _ _)
    have HBE := hid hbe
    clear hW hB hk hbe
    go_wp2_with fail
    refine Calls.mono (h15.out _ _ (HM.out _ (HBE.out W (Below.refl _ _)))) ?_
    rintro e w1 ⟨rfl, hb1⟩
    have HB1 := hid hb1
    clear hb1
    go_wp2
    go_ret
    exact ⟨rfl, HBE.out _ HB1.out⟩
  · rw [Bool.true_and]
    go_enter Try.func23, Try.ntmps23
    go_upto_region 1 with (fail)
    obtain ⟨W, hW⟩ : ∃ W, W = (w.alloc (.cells #[Value.int .i64 a, .int .i64 b, .slice p M c, .slice q N d] 24)).alloc (.cells #[Value.int .i64 x, .int .i64 y] 27) := ⟨_, rfl⟩
    obtain ⟨B, hB⟩ : ∃ B, B = w.heap.size := ⟨_, rfl⟩
    rw [← hW, ← hB]
    obtain ⟨hk, hbe⟩ := map_cell_box w a b _ _ x y W B hW hB
    obtain ⟨a0, a1, a2, a3, a4, a5⟩ := hk W (Below.refl _ _)
    have HK := hid hk
    have HBE := hid hbe
    clear hW hB hk hbe
    go_wp2_with fail
    refine Calls.mono (h15.out _ _ (HM.out _ (HBE.out W (Below.refl _ _)))) ?_
    rintro e w1 ⟨rfl, hb1⟩
    obtain ⟨b0, b1, b2, b3, b4, b5⟩ := HK.out w1 hb1
    have HB1 := hid hb1
    clear hb1
    go_wp2_with fail
    refine Calls.mono (h39.out _ _ _) ?_
    rintro e w2 ⟨rfl, hb2⟩
    have HB2 := hid (HB1.out.trans (hb2.mono HB1.out.size))
    clear hb2
    go_wp2
    go_ret
    exact ⟨rfl, HBE.out _ HB2.out⟩
set_option maxHeartbeats 1000000 in
theorem tileOf_any (m : Mp) (v : Value) (x y : Int) (w : World) (hm : MapAt w v m) (hf : formed m = true) (hh : holds m x y = true) : Calls Try.prog 46 #[v, C x y] w fun e w' => Out w (.int .i64 (tileAt m x y)) e w' := by
  obtain ⟨f1, f2, f3, f4, f5⟩ := formed_of hf
  have hp := holds_of hh
  have hq := place_lt f1 f2 hp
  unfold tileAt Out C
  obtain ⟨p, c, q, d, rfl, hT, hO⟩ := hm
  obtain ⟨a, b, ts, os⟩ := m
  simp only at *
  obtain ⟨sb, so, rfl, hc⟩ := hT.pos (y * a + x).toNat (by omega)
  have hc0 := hc (y * a + x).toNat (by omega)
  have hsb := lt_of_cell hc0
  have HC : Hid (∀ W, Below w.heap.size w W → W.cell? ⟨sb, so + (y * a + x).toNat, none⟩ = some (.int .i64 (ts.getD (y * a + x).toNat 0))) := fun W h => by rw [h.cell (p := ⟨sb, so + (y * a + x).toNat, none⟩) hsb]; exact hc0
  have k1 : 0 ≤ y * a + x := by omega
  have k2 : y * a + x < (ts.length : Int) := by omega
  obtain ⟨q1, q2, q3⟩ := hq
  obtain ⟨p1, p2, p3, p4⟩ := hp
  have k3 : y * a + x ≤ 9223372036854775807 := by omega
  have q4 : y * a ≤ 9223372036854775807 := by omega
  clear hT hO hc hc0 hf hh f3 f4 f5
  generalize ts.getD (y * a + x).toNat 0 = t at *
  generalize ts.length = M at *
  generalize os.length = N at *
  go_enter Try.func46, Try.ntmps46
  go_upto_region 1 with (fail)
  obtain ⟨W, hW⟩ : ∃ W, W = (w.alloc (.cells #[Value.int .i64 a, .int .i64 b, .slice (some ⟨sb, so, none⟩) M c, .slice q N d] 24)).alloc (.cells #[Value.int .i64 x, .int .i64 y] 27) := ⟨_, rfl⟩
  obtain ⟨B, hB⟩ : ∃ B, B = w.heap.size := ⟨_, rfl⟩
  rw [← hW, ← hB]
  obtain ⟨hk, hbe⟩ := map_cell_box w a b _ _ x y W B hW hB
  obtain ⟨a0, a1, a2, a3, a4, a5⟩ := hk W (Below.refl _ _)
  have HBE := hid (hbe W (Below.refl _ _))
  have hcell := HC.out W HBE.out
  clear hW hB hk hbe HC
  go_wp2
  go_ret
  exact ⟨rfl, HBE.out⟩
end Go.Proofs.Yteijncfnifebjaa
