/- The reference: Inside, Tile, Free. -/
import Derived.Test.YtemcbonmlmobkaaRefF
namespace Go.Proofs.Ytemcbonmlmobkaa
open Go.RowKit
/-- The tile of a cell inside. -/
def tileAt (m : Mp) (x y : Int) : Int := m.ts.getD (y * m.W + x).toNat 0
set_option maxHeartbeats 1000000 in
theorem refInside_any (m : Mp) (v : Value) (x y : Int) (w : World) (hm : MapAt w v m) : Calls Try.prog 24 #[v, C x y] w fun e w' => Out w (.bool (formed m && holds m x y)) e w' := by
  have h15 : Hid (∀ W v, MapAt W v m → Calls Try.prog 23 #[v] W fun e w' => Out W (.bool (formed m)) e w') := fun W v h => refFormed_any m v W h
  have h39 : Hid (∀ s t W, Calls Try.prog 37 #[.agg #[.int .i64 m.W, .int .i64 m.H, s, t], C x y] W fun e w' => Out W (.bool (holds m x y)) e w') := fun s t W => refHolds_any m s t x y W
  have HM := hid (fun W (h : Below w.heap.size w W) => hm.below h)
  obtain ⟨p, c, q, d, rfl, -, -⟩ := hm
  generalize formed m = F at *
  generalize holds m x y = G at *
  obtain ⟨a, b, ts, os⟩ := m
  simp only at HM h39 ⊢
  generalize ts.length = M at *
  generalize os.length = N at *
  unfold C at *
  rcases F with _ | _
  · go_enter Try.func24, Try.ntmps24
    go_upto_region 1 with (fail)
    obtain ⟨W, hW⟩ : ∃ W, W = (w.alloc (.cells #[Value.int .i64 a, .int .i64 b, .slice p M c, .slice q N d] 24)).alloc (.cells #[Value.int .i64 x, .int .i64 y] 27) := ⟨_, rfl⟩
    obtain ⟨B, hB⟩ : ∃ B, B = w.heap.size := ⟨_, rfl⟩
    rw [← hW, ← hB]
    obtain ⟨hk, hbe⟩ := map_cell_box w a b _ _ x y W B hW hB
    obtain ⟨a0, a1, a2, a3, a4, a5⟩ := hk W (Below.refl _ _)
    have HBE := hid hbe
    clear hW hB hk hbe
    go_wp2_with fail
    refine Calls.mono (h15.out _ _ (HM.out _ (HBE.out W (Below.refl _ _)))) ?_
    rintro e w1 ⟨rfl, hb1⟩
    have HB1 := hid hb1
    clear hb1
    go_wp2
    go_ret
    exact ⟨rfl, HBE.out _ HB1.out⟩
  · rw [Bool.true_and]
    go_enter Try.func24, Try.ntmps24
    go_upto_region 1 with (fail)
    obtain ⟨W, hW⟩ : ∃ W, W = (w.alloc (.cells #[Value.int .i64 a, .int .i64 b, .slice p M c, .slice q N d] 24)).alloc (.cells #[Value.int .i64 x, .int .i64 y] 27) := ⟨_, rfl⟩
    obtain ⟨B, hB⟩ : ∃ B, B = w.heap.size := ⟨_, rfl⟩
    rw [← hW, ← hB]
    obtain ⟨hk, hbe⟩ := map_cell_box w a b _ _ x y W B hW hB
    obtain ⟨a0, a1, a2, a3, a4, a5⟩ := hk W (Below.refl _ _)
    have HK := hid hk
    have HBE := hid hbe
    clear hW hB hk hbe
    go_wp2_with fail
    refine Calls.mono (h15.out _ _ (HM.out _ (HBE.out W (Below.refl _ _)))) ?_
    rintro e w1 ⟨rfl, hb1⟩
    obtain ⟨b0, b1, b2, b3, b4, b5⟩ := HK.out w1 hb1
    have HB1 := hid hb1
    clear hb1
    go_wp2_with fail
    refine Calls.mono (h39.out _ _ _) ?_
    rintro e w2 ⟨rfl, hb2⟩
    have HB2 := hid (HB1.out.trans (hb2.mono HB1.out.size))
    clear hb2
    go_wp2
    go_ret
    exact ⟨rfl, HBE.out _ HB2.out⟩
end Go.Proofs.Ytemcbonmlmobkaa
