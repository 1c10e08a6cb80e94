/- The reference: neighbours, in a row of the call's own. -/
import Derived.Test.YtemcbonmlmobkaaRefN
namespace Go.Proofs.Ytemcbonmlmobkaa
open Go.RowKit
set_option maxRecDepth 100000 in
set_option maxHeartbeats 4000000 in
theorem refNear_own (m : Mp) (v : Value) (x y : Int) (w : World) (hx : -9223372036854775808 ≤ x ∧ x < 9223372036854775808) (hy : -9223372036854775808 ≤ y ∧ y < 9223372036854775808) (hm : MapAt w v m) : Calls Try.prog 27 #[v, C x y] w fun e w' => OutOwn w (near m x y) e w' := by
  have h16 : Hid (∀ W v, MapAt W v m → Calls Try.prog 23 #[v] W fun e w' => Out W (.bool (formed m)) e w') := fun W v h => refFormed_any m v W h
  have h40 : Hid (∀ s t u z W, Calls Try.prog 37 #[.agg #[.int .i64 m.W, .int .i64 m.H, s, t], C u z] W fun e w' => Out W (.bool (holds m u z)) e w') := fun s t u z W => refHolds_any m s t u z W
  have HM := hid (fun W (h : Below w.heap.size w W) => hm.below h)
  obtain ⟨L, hL⟩ : ∃ L, L = near m x y := ⟨_, rfl⟩
  rw [← hL]
  have HN : Hid (out x y = true → L = []) := fun h => hL.trans (near_out hx hy h)
  have HL : Hid (L = if formed m then (nbs x y).filter (fun c => holds m c.1 c.2) else []) := hL
  have HC : Hid (nbs x y = [(x, wrap64 (y - 1)), (wrap64 (x + 1), y), (x, wrap64 (y + 1)), (wrap64 (x - 1), y)]) := rfl
  clear hL hx hy
  unfold OutOwn
  generalize nbs x y = cs at *
  obtain ⟨p, c, q, d, rfl, -, -⟩ := hm
  generalize formed m = F at *
  generalize hol : holds m = hold at *
  clear hol
  obtain ⟨a, b, ts, os⟩ := m
  simp only at HM h40 ⊢
  generalize ts.length = M at *
  generalize os.length = N at *
  unfold C at *
  have nil : ∀ w1, L = [] → Below w.heap.size w w1 → ∃ v, Ending.returned (.slice none 0 0) = .returned v ∧ OwnC w1 w.heap.size v L ∧ Below w.heap.size w w1 := fun w1 h hb => ⟨_, rfl, by subst h; exact OwnC.nil _ _, hb⟩
  have Hnil := hid nil
  clear nil
  rcases F with _ | _
  · have HZ : Hid (L = []) := by have := HL.out; exact hid (by simpa using this)
    go_enter Try.func27, Try.ntmps27
    go_upto_region 1 with (fail)
    obtain ⟨W, hW⟩ : ∃ W, W = (w.alloc (.cells #[Value.int .i64 a, .int .i64 b, .slice p M c, .slice q N d] 24)).alloc (.cells #[Value.int .i64 x, .int .i64 y] 27) := ⟨_, rfl⟩
    obtain ⟨B, hB⟩ : ∃ B, B = w.heap.size := ⟨_, rfl⟩
    rw [← hW, ← hB]
    obtain ⟨hk, hbe⟩ := map_cell_box w a b _ _ x y W B hW hB
    obtain ⟨a0, a1, a2, a3, a4, a5⟩ := hk W (Below.refl _ _)
    have HBE := hid hbe
    clear hW hB hk hbe
    go_wp2_with fail
    refine Calls.mono (h16.out _ _ (HM.out _ (HBE.out W (Below.refl _ _)))) ?_
    rintro e w1 ⟨rfl, hb1⟩
    have HB1 := hid hb1
    clear hb1
    go_wp2
    go_ret
    exact Hnil.out _ HZ.out (HBE.out _ HB1.out)
  · have HLL : Hid (L = cs.filter (fun c => hold c.1 c.2)) := by have := HL.out; exact hid (by simpa using this)
    clear HL
    go_enter Try.func27, Try.ntmps27
    go_upto_region 1 with (fail)
    obtain ⟨W, hW⟩ : ∃ W, W = (w.alloc (.cells #[Value.int .i64 a, .int .i64 b, .slice p M c, .slice q N d] 24)).alloc (.cells #[Value.int .i64 x, .int .i64 y] 27) := ⟨_, rfl⟩
    obtain ⟨B, hB⟩ : ∃ B, B = w.heap.size := ⟨_, rfl⟩
    rw [← hW, ← hB]
    obtain ⟨hk, hbe⟩ := map_cell_box w a b _ _ x y W B hW hB
    obtain ⟨a0, a1, a2, a3, a4, a5⟩ := hk W (Below.refl _ _)
    have HBE := hid hbe
    have HK := hid hk
    clear hW hB hk hbe
    go_wp2_with fail
    refine Calls.mono (h16.out _ _ (HM.out _ (HBE.out W (Below.refl _ _)))) ?_
    rintro e w1 ⟨rfl, hb1⟩
    have HB1 := hid hb1
    obtain ⟨b0, b1, b2, b3, b4, b5⟩ := HK.out w1 hb1
    clear hb1 a0 a1 a2 a3 a4 a5
    by_cases x1 : x < -2
    · have HZ := hid (HN.out (by unfold out; simp [x1]))
      go_wp2
      go_ret
      exact Hnil.out _ HZ.out (HBE.out _ HB1.out)
    have y1 : (x < -2) = False := by simp; omega
    by_cases x2 : x > 100
    · have HZ := hid (HN.out (by unfold out; simp [x2]))
      have x2' : 100 < x := x2
      go_wp2
      go_ret
      exact Hnil.out _ HZ.out (HBE.out _ HB1.out)
    have y2 : (100 < x) = False := by simp; omega
    by_cases x3 : y < -2
    · have HZ := hid (HN.out (by unfold out; simp [x3]))
      go_wp2
      go_ret
      exact Hnil.out _ HZ.out (HBE.out _ HB1.out)
    have y3 : (y < -2) = False := by simp; omega
    by_cases x4 : y > 100
    · have HZ := hid (HN.out (by unfold out; simp [x4]))
      have x4' : 100 < y := x4
      go_wp2
      go_ret
      exact Hnil.out _ HZ.out (HBE.out _ HB1.out)
    have y4 : (100 < y) = False := by simp; omega
    go_upto_region 5 with fail
    obtain ⟨V, hV⟩ : ∃ V, V = w1.alloc (.cells #[Value.int .i64 x, .int .i64 (y - 1), .int .i64 (x + 1), .int .i64 y, .int .i64 x, .int .i64 (y + 1), .int .i64 (x - 1), .int .i64 y] 63) := ⟨_, rfl⟩
    obtain ⟨g, hg⟩ : ∃ g, g = w1.heap.size := ⟨_, rfl⟩
    have HVB : Hid (Below w1.heap.size w1 V) := by rw [hV]; exact (Below.refl _ _).alloc (Nat.le_refl _) _
    have HVG : Hid (Blk V g [.int .i64 x, .int .i64 (y - 1), .int .i64 (x + 1), .int .i64 y, .int .i64 x, .int .i64 (y + 1), .int .i64 (x - 1), .int .i64 y] 63) := by rw [hV, hg]; exact Blk.new _ _ _
    have HBV := hid (HB1.out.trans (HVB.out.mono HB1.out.size))
    have HCC : Hid (cs = [(x, y - 1), (x + 1, y), (x, y + 1), (x - 1, y)]) := by
      have := HC.out
      rw [wrap_small (by omega), wrap_small (by omega), wrap_small (by omega), wrap_small (by omega)] at this
      exact this
    have HG : Hid (∀ wr, Below V.heap.size V wr → ∀ i, i < 4 → wr.cell? ⟨g, i * 2, none⟩ = some (.int .i64 (cs.getD i (0, 0)).1) ∧ wr.cell? ⟨g, i * 2 + 1, none⟩ = some (.int .i64 (cs.getD i (0, 0)).2)) := by
      intro wr hb i hi
      have hB := HVG.out.below hb HVG.out.lt
      rw [HCC.out]
      have hcase : i = 0 ∨ i = 1 ∨ i = 2 ∨ i = 3 := by omega
      rcases hcase with rfl | rfl | rfl | rfl
      · exact ⟨hB.cell 0, hB.cell 1⟩
      · exact ⟨hB.cell 2, hB.cell 3⟩
      · exact ⟨hB.cell 4, hB.cell 5⟩
      · exact ⟨hB.cell 6, hB.cell 7⟩
    have HLEN : Hid (cs.length = 4) := by rw [HCC.out]; exact rfl
    rw [← hV, ← hg]
    clear hV hg HVB HVG HCC HC b0 b1 b2 b3 b4 b5 HB1 HN Hnil
    generalize x - 1 = xl at *
    generalize x + 1 = xr at *
    generalize y - 1 = yu at *
    generalize y + 1 = yd at *
    clear x1 x2 x3 x4 y1 y2 y3 y4
    go_wp2_with fail
    go_loopw [7, 6] (fun iv lv wr => ∃ i : Nat, i ≤ 4 ∧ iv = .int .i64 (i : Int) ∧ Hid (Below V.heap.size V wr) ∧ Hid (OwnC wr V.heap.size lv ((cs.take i).filter (fun c => hold c.1 c.2)))) (fun iv _ _ => 4 - (intOf iv).toNat)
    case atStart => exact ⟨0, by omega, rfl, Below.refl _ _, OwnC.nil _ _⟩
    case round =>
      obtain ⟨i, hi, rfl, HB2, HO⟩ := hrel
      by_cases hlt : i < 4
      · have e2 : (i : Int) < 4 := by omega
        have e3 : (0 : Int) ≤ (i : Int) := by omega
        obtain ⟨g0, g1⟩ := HG.out wr HB2.out i hlt
        have hBW := HBV.out.trans (HB2.out.mono HBV.out.size)
        obtain ⟨a0, a1, a2, a3, a4, a5⟩ := HK.out wr hBW
        clear hBW
        have HT := hid (take_next cs hold i (by rw [HLEN.out]; exact hlt))
        obtain ⟨X, GX⟩ : ∃ X, X = (cs.getD i (0, 0)).1 := ⟨_, rfl⟩
        obtain ⟨Y, GY⟩ : ∃ Y, Y = (cs.getD i (0, 0)).2 := ⟨_, rfl⟩
        obtain ⟨ys, GZ⟩ : ∃ ys, ys = (cs.take (i + 1)).filter (fun c => hold c.1 c.2) := ⟨_, rfl⟩
        rw [← GX, ← GY, ← GZ] at HT
        rw [← GX] at g0
        rw [← GY] at g1
        have HY := hid GZ
        have HX := hid (And.intro GX GY)
        clear GX GY GZ
        go_upto_region 8 with fail
        go_still_tail 4, (by kernel_rfl)
        repeat still_step
        go_wp2_with fail
        refine Calls.mono (h40.out _ _ _ _ _) ?_
        rintro e w3 ⟨rfl, hb3⟩
        have hD : Below wr.heap.size wr w3 := (Below.drewN (Below.refl wr.heap.size wr) 1).trans hb3
        have HBW := hid (HB2.out.trans (hD.mono HB2.out.size))
        have HOW := hid (HO.out.below hD)
        obtain ⟨g2, g3⟩ := HG.out w3 HBW.out i hlt
        rw [← HX.out.1] at g2
        rw [← HX.out.2] at g3
        clear hb3 hD HB2 HO g0 g1 a0 a1 a2 a3 a4 a5
        rcases hh : hold X Y with _ | _
        · have e1 : ys = (cs.take i).filter (fun c => hold c.1 c.2) := by rw [HT.out, hh]; rfl
          rw [← e1] at HOW
          clear hh
          go_wp2
          go_roundw
          case rel => exact ⟨i + 1, by omega, by simp, HBW, by rw [HY.out] at HOW; exact HOW⟩
          case measure => simp [intOf]; omega
        · have HE1 : Hid (ys = (cs.take i).filter (fun c => hold c.1 c.2) ++ [(X, Y)]) := by rw [HT.out, hh]; exact hid rfl
          clear hh
          have HSL : Hid (((cs.take i).filter (fun c => hold c.1 c.2)).length ≤ 1000000) := Nat.le_trans (List.length_filter_le _ _) (by rw [List.length_take]; omega)
          generalize (cs.take i).filter (fun c => hold c.1 c.2) = xs at *
          obtain ⟨U, hU⟩ : ∃ U, U = w3.alloc (.cells #[Value.int .i64 X, .int .i64 Y] 27) := ⟨_, rfl⟩
          have HUB : Hid (Below w3.heap.size w3 U) := by rw [hU]; exact (Below.refl _ _).alloc (Nat.le_refl _) _
          have HUG : Hid (Blk U w3.heap.size [.int .i64 (X, Y).1, .int .i64 (X, Y).2] 27) := by rw [hU]; exact Blk.new _ _ _
          have HBU := hid (HBW.out.trans (HUB.out.mono HBW.out.size))
          have HOU := hid (HOW.out.below HUB.out)
          rw [hU] at HUG HBU HOU
          clear hU
          go_upto_region 7 with (first
            | ((with_reducible refine wpL_appendC V.heap.size u6 w3.heap.size xs (X, Y) ?_ ?_ HOU.out HUG.out HSL.out HBU.out.size ?_); (rfl); (rfl); (intro v' w4 ho4 hg4); (have HB4 := hid (HBU.out.trans ((hg4.belowC HOU.out HBU.out.size))); have HO4 := hid ho4; clear ho4 hg4); (simp only [Act.put, List.setIfInBounds_toArray, List.set_cons_zero, List.set_cons_succ])))
          rw [← HE1.out] at HO4
          go_wp2
          go_roundw
          case rel => exact ⟨i + 1, by omega, by simp, HB4, by rw [HY.out] at HO4; exact HO4⟩
          case measure => simp [intOf]; omega
      · obtain rfl : i = 4 := by omega
        go_wp2
        go_ret
        have hf : cs.take 4 = cs := List.take_of_length_le (by rw [HLEN.out]; exact Nat.le_refl _)
        rw [hf, ← HLL.out] at HO
        exact ⟨_, rfl, HO.out.mono (HBE.out _ HBV.out).size, HBE.out _ (HBV.out.trans (HB2.out.mono HBV.out.size))⟩
end Go.Proofs.Ytemcbonmlmobkaa
