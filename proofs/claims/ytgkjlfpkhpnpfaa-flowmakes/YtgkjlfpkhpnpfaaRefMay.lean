/- The reference: what may be come to. -/
import Derived.Test.YtgkjlfpkhpnpfaaFacts
import Derived.Test.YtgkjlfpkhpnpfaaRefI
namespace Go.Proofs.Ytgkjlfpkhpnpfaa
open Go.RowKit
set_option maxHeartbeats 1000000 in
theorem tileOf_any (m : Mp) (v : Value) (x y : Int) (w : World) (hm : MapAt w v m) (hf : formed m = true) (hh : holds m x y = true) : Calls Try.prog 44 #[v, C x y] w fun e w' => Out w (.int .i64 (tileAt m x y)) e w' := by
  obtain ⟨f1, f2, f3, f4, f5⟩ := formed_of hf
  have hp := holds_of hh
  have hq := place_lt f1 f2 hp
  unfold tileAt Out C
  obtain ⟨p, c, q, d, rfl, hT, hO⟩ := hm
  obtain ⟨a, b, ts, os⟩ := m
  simp only at *
  obtain ⟨sb, so, rfl, hc⟩ := hT.pos (y * a + x).toNat (by omega)
  have hc0 := hc (y * a + x).toNat (by omega)
  have hsb := lt_of_cell hc0
  have HC : Hid (∀ W, Below w.heap.size w W → W.cell? ⟨sb, so + (y * a + x).toNat, none⟩ = some (.int .i64 (ts.getD (y * a + x).toNat 0))) := fun W h => by rw [h.cell (p := ⟨sb, so + (y * a + x).toNat, none⟩) hsb]; exact hc0
  have k1 : 0 ≤ y * a + x := by omega
  have k2 : y * a + x < (ts.length : Int) := by omega
  obtain ⟨q1, q2, q3⟩ := hq
  obtain ⟨p1, p2, p3, p4⟩ := hp
  have k3 : y * a + x ≤ 9223372036854775807 := by omega
  have q4 : y * a ≤ 9223372036854775807 := by omega
  clear hT hO hc hc0 hf hh f3 f4 f5
  generalize ts.getD (y * a + x).toNat 0 = t at *
  generalize ts.length = M at *
  generalize os.length = N at *
  go_enter Try.func44, Try.ntmps44
  go_upto_region 1 with (fail)
  obtain ⟨W, hW⟩ : ∃ W, W = (w.alloc (.cells #[Value.int .i64 a, .int .i64 b, .slice (some ⟨sb, so, none⟩) M c, .slice q N d] 24)).alloc (.cells #[Value.int .i64 x, .int .i64 y] 37) := ⟨_, rfl⟩
  obtain ⟨B, hB⟩ : ∃ B, B = w.heap.size := ⟨_, rfl⟩
  rw [← hW, ← hB]
  obtain ⟨hk, hbe⟩ := map_cell_box w a b _ _ x y W B hW hB
  obtain ⟨a0, a1, a2, a3, a4, a5⟩ := hk W (Below.refl _ _)
  have HBE := hid (hbe W (Below.refl _ _))
  have hcell := HC.out W HBE.out
  clear hW hB hk hbe HC
  go_wp2
  go_ret
  exact ⟨rfl, HBE.out⟩
set_option maxHeartbeats 2000000 in
theorem refGround_any (m : Mp) (v : Value) (x y : Int) (w : World) (hm : MapAt w v m) (hf : formed m = true) : Calls Try.prog 41 #[v, C x y] w fun e w' => Out w (.bool (holds m x y && !rock m x y)) e w' := by
  have h36 : Hid (∀ s t W, Calls Try.prog 36 #[.agg #[.int .i64 m.W, .int .i64 m.H, s, t], C x y] W fun e w' => Out W (.bool (holds m x y)) e w') := fun s t W => refHolds_any m s t x y W
  have h44 : Hid (∀ W v, holds m x y = true → MapAt W v m → Calls Try.prog 44 #[v, C x y] W fun e w' => Out W (.int .i64 (tileAt m x y)) e w') := fun W v h hm => tileOf_any m v x y W hm hf h
  have HM := hid (fun W (h : Below w.heap.size w W) => hm.below h)
  have hrk : rock m x y = (tileAt m x y == 1) := rfl
  rw [hrk]
  clear hrk hf
  obtain ⟨p, c, q, d, rfl, -, -⟩ := hm
  generalize holds m x y = F at *
  generalize tileAt m x y = G at *
  obtain ⟨a, b, ts, os⟩ := m
  simp only at HM h36 ⊢
  generalize ts.length = M at *
  generalize os.length = N at *
  unfold C Out at *
  go_enter Try.func41, Try.ntmps41
  go_upto_region 1 with (fail)
  obtain ⟨W, hW⟩ : ∃ W, W = (w.alloc (.cells #[Value.int .i64 a, .int .i64 b, .slice p M c, .slice q N d] 24)).alloc (.cells #[Value.int .i64 x, .int .i64 y] 37) := ⟨_, rfl⟩
  obtain ⟨B, hB⟩ : ∃ B, B = w.heap.size := ⟨_, rfl⟩
  rw [← hW, ← hB]
  obtain ⟨hk, hbe⟩ := map_cell_box w a b _ _ x y W B hW hB
  obtain ⟨a0, a1, a2, a3, a4, a5⟩ := hk W (Below.refl _ _)
  have HK := hid hk
  have HBE := hid hbe
  have HB := hid (fun (_ : Nat) => hB)
  clear hW hB hk hbe
  go_wp2_with fail
  refine Calls.mono (h36.out _ _ W) ?_
  rintro e w1 ⟨rfl, hb1⟩
  have HB1 := hid hb1
  clear hb1 a0 a1 a2 a3 a4 a5
  rcases F with _ | _
  · go_wp2
    go_ret
    have HE := HBE.out _ HB1.out
    first
      | exact ⟨rfl, HE⟩
      | exact ⟨by simp, HE⟩
  · obtain ⟨a0, a1, a2, a3, a4, a5⟩ := HK.out w1 HB1.out
    go_wp2_with fail
    refine Calls.mono (h44.out w1 _ (by first | rfl | trivial) (HM.out _ (HBE.out _ HB1.out))) ?_
    rintro e w2 ⟨rfl, hb2⟩
    have HB2 := hid (HB1.out.trans (hb2.mono HB1.out.size))
    clear hb2 a0 a1 a2 a3 a4 a5
    have HE := hid (HBE.out _ HB2.out)
    by_cases hG : G = 1
    · subst hG
      go_wp2
      go_ret
      exact ⟨by simp, HE.out⟩
    · have hG1 : (G != 1) = true := by simpa using hG
      go_wp2
      go_ret
      exact ⟨by simp [hG], HE.out⟩
set_option maxHeartbeats 2000000 in
theorem refMay_any (m : Mp) (v : Value) (bl gs : List Cl) (p1 p2 : Option Addr) (N1 c1 N2 c2 : Nat) (x y : Int) (w : World) (hm : MapAt w v m) (hbl : CellsAt w (.slice p1 N1 c1) bl) (hgs : CellsAt w (.slice p2 N2 c2) gs) (hf : formed m = true) (h1 : N1 ≤ 1000) (h2 : N2 ≤ 1000) :
    Calls Try.prog 29 #[v, .slice p1 N1 c1, .slice p2 N2 c2, C x y] w fun e w' => Out w (.bool (opn m bl gs (x, y))) e w' := by
  have h18a : Hid (∀ W, Below w.heap.size w W → Calls Try.prog 18 #[.slice p1 N1 c1, C x y] W fun e w' => Out W (.bool (bl.contains (x, y))) e w') := fun W h => in_any bl p1 N1 c1 x y W (hbl.below h) h1
  have h18b : Hid (∀ W, Below w.heap.size w W → Calls Try.prog 18 #[.slice p2 N2 c2, C x y] W fun e w' => Out W (.bool (gs.contains (x, y))) e w') := fun W h => in_any gs p2 N2 c2 x y W (hgs.below h) h2
  have h41 : Hid (∀ W, Below w.heap.size w W → Calls Try.prog 41 #[v, C x y] W fun e w' => Out W (.bool (holds m x y && !rock m x y)) e w') := fun W h => refGround_any m v x y W (hm.below h) hf
  have hop : opn m bl gs (x, y) = (gs.contains (x, y) || (holds m x y && !rock m x y) && !bl.contains (x, y)) := rfl
  rw [hop]
  clear hop hf hbl hgs h1 h2
  obtain ⟨p, c, q, d, rfl, -, -⟩ := hm
  generalize bl.contains (x, y) = Bb at *
  generalize gs.contains (x, y) = Gb at *
  generalize (holds m x y && !rock m x y) = Hb at *
  obtain ⟨a, b, ts, os⟩ := m
  simp only at h41 ⊢
  generalize Value.slice p ts.length c = S1 at *
  generalize Value.slice q os.length d = S2 at *
  generalize Value.slice p1 N1 c1 = S3 at *
  generalize Value.slice p2 N2 c2 = S4 at *
  unfold C Out at *
  go_enter Try.func29, Try.ntmps29
  go_upto_region 1 with (fail)
  obtain ⟨W, hW⟩ : ∃ W, W = (w.alloc (.cells #[Value.int .i64 a, .int .i64 b, S1, S2] 24)).alloc (.cells #[Value.int .i64 x, .int .i64 y] 37) := ⟨_, rfl⟩
  obtain ⟨B, hB⟩ : ∃ B, B = w.heap.size := ⟨_, rfl⟩
  rw [← hW, ← hB]
  obtain ⟨hk, hbe⟩ := map_cell_box w a b _ _ x y W B hW hB
  obtain ⟨a0, a1, a2, a3, a4, a5⟩ := hk W (Below.refl _ _)
  have HK := hid hk
  have HBE := hid hbe
  clear hW hB hk hbe
  go_wp2_with fail
  refine Calls.mono (h18b.out W (HBE.out W (Below.refl _ _))) ?_
  rintro e w1 ⟨rfl, hb1⟩
  have HB1 := hid hb1
  clear hb1 a0 a1 a2 a3 a4 a5
  rcases Gb with _ | _
  · obtain ⟨a0, a1, a2, a3, a4, a5⟩ := HK.out w1 HB1.out
    go_wp2_with fail
    refine Calls.mono (h41.out w1 (HBE.out _ HB1.out)) ?_
    rintro e w2 ⟨rfl, hb2⟩
    have HB2 := hid (HB1.out.trans (hb2.mono HB1.out.size))
    clear hb2 a0 a1 a2 a3 a4 a5
    rcases Hb with _ | _
    · have HE := hid (HBE.out _ HB2.out)
      go_wp2
      go_ret
      exact ⟨by simp, HE.out⟩
    · obtain ⟨a0, a1, a2, a3, a4, a5⟩ := HK.out w2 HB2.out
      go_wp2_with fail
      refine Calls.mono (h18a.out w2 (HBE.out _ HB2.out)) ?_
      rintro e w3 ⟨rfl, hb3⟩
      have HE := hid (HBE.out _ (HB2.out.trans (hb3.mono HB2.out.size)))
      clear hb3 a0 a1 a2 a3 a4 a5
      rcases Bb with _ | _
      · go_wp2
        go_ret
        exact ⟨by simp, HE.out⟩
      · go_wp2
        go_ret
        exact ⟨by simp, HE.out⟩
  · have HE := hid (HBE.out _ HB1.out)
    go_wp2
    go_ret
    exact ⟨by simp, HE.out⟩
end Go.Proofs.Ytgkjlfpkhpnpfaa
