/- The reference: the line. -/
import Derived.Test.YteijncfnifebjaaRefD
import Derived.Test.YteijncfnifebjaaOwnC
import Derived.Test.YteijncfnifebjaaPlan
import Derived.StillTailTactics
namespace Go.Proofs.Yteijncfnifebjaa
open Go.RowKit
theorem wrapi {z : Int} (h : -100000000 ≤ z ∧ z ≤ 100000000) : IntKind.i64.wrap z = z := by
  simp [IntKind.wrap, IntKind.signed, IntKind.bits]
  split <;> omega
theorem div_small {a b : Int} (ha : -9000000 ≤ a ∧ a ≤ 9000000) (hb : 1 ≤ b) : -9000000 ≤ a / b ∧ a / b ≤ 9000000 := by
  constructor
  · rw [Int.le_ediv_iff_mul_le (by omega)]
    have := Int.mul_le_mul_of_nonneg_left hb (show (0 : Int) ≤ 9000000 by omega)
    omega
  · have h : a / b < 9000001 := by
      rw [Int.ediv_lt_iff_lt_mul (by omega)]
      have := Int.mul_le_mul_of_nonneg_left hb (show (0 : Int) ≤ 9000001 by omega)
      omega
    omega
set_option maxHeartbeats 4000000 in
theorem refLine_any (ax ay bx by_ : Int) (w : World) : Calls Try.prog 45 #[C ax ay, C bx by_] w fun e w' => OutLine w (lineM ax ay bx by_) e w' := by
  have h44 : Hid (∀ x y W, Calls Try.prog 32 #[C x y] W fun e w' => Out W (.bool (meas x y)) e w') := refMeas_any
  have h45 : Hid (∀ (a b : Int) (_ : -1000 ≤ a ∧ a ≤ 1000) (_ : -1000 ≤ b ∧ b ≤ 1000) W, Calls Try.prog 33 #[.int .i64 (a - b)] W fun e w' => e = .returned (.int .i64 (apt a b)) ∧ w' = W) := refSize_any
  have h48 : Hid (∀ (d k n : Int) (_ : -2000 ≤ d ∧ d ≤ 2000) (_ : 0 ≤ k ∧ k ≤ n) (_ : 0 < n ∧ n ≤ 2000) (W : World), Calls Try.prog 48 #[.int .i64 (2 * k * d + n), .int .i64 (2 * n)] W fun e w' => e = .returned (.int .i64 ((2 * k * d + n) / (2 * n))) ∧ w' = W) := fun d k n hd hk hn W => by have := mul_bound (k := k) (d := d) (by omega) hd; exact refFloor_any _ _ (by omega) (by omega) (by omega) W
  unfold lineM OutLine
  rcases Bool.eq_false_or_eq_true (meas ax ay) with ha | ha
  · rcases Bool.eq_false_or_eq_true (meas bx by_) with hb | hb
    · have ka := meas_of ha
      have kb := meas_of hb
      have h1 := h45.out ax bx ⟨ka.1, ka.2.1⟩ ⟨kb.1, kb.2.1⟩
      have h2 := h45.out ay by_ ⟨ka.2.2.1, ka.2.2.2⟩ ⟨kb.2.2.1, kb.2.2.2⟩
      have hX : 0 ≤ apt ax bx ∧ apt ax bx ≤ 2000 := by unfold apt; omega
      have hY : 0 ≤ apt ay by_ ∧ apt ay by_ ≤ 2000 := by unfold apt; omega
      have e1 := h44.out ax ay
      have e2 := h44.out bx by_
      rw [ha] at e1
      rw [hb] at e2
      rw [ha, hb, Bool.true_and, if_pos rfl]
      have HF : Hid (far ax ay bx by_ = max (apt ax bx) (apt ay by_)) := rfl
      obtain ⟨L, hL⟩ : ∃ L, L = lineOf ax ay bx by_ := ⟨_, rfl⟩
      rw [← hL]
      have HL := hid (fun (_ : Nat) => hL)
      clear hL
      obtain ⟨ka1, ka2, ka3, ka4⟩ := ka
      obtain ⟨kb1, kb2, kb3, kb4⟩ := kb
      have HB1 : Hid (∀ k n : Nat, 0 < n → n ≤ 2000 → k ≤ n → ∀ W, Calls Try.prog 48 #[.int .i64 (2 * (k : Int) * (bx - ax) + (n : Int)), .int .i64 (2 * (n : Int))] W fun e w' => e = .returned (.int .i64 ((2 * (k : Int) * (bx - ax) + (n : Int)) / (2 * (n : Int)))) ∧ w' = W) := fun k n h0 h1 h2 W => h48.out (bx - ax) k n (by omega) (by omega) (by omega) W
      have HB2 : Hid (∀ k n : Nat, 0 < n → n ≤ 2000 → k ≤ n → ∀ W, Calls Try.prog 48 #[.int .i64 (2 * (k : Int) * (by_ - ay) + (n : Int)), .int .i64 (2 * (n : Int))] W fun e w' => e = .returned (.int .i64 ((2 * (k : Int) * (by_ - ay) + (n : Int)) / (2 * (n : Int)))) ∧ w' = W) := fun k n h0 h1 h2 W => h48.out (by_ - ay) k n (by omega) (by omega) (by omega) W
      generalize apt ax bx = X at *
      generalize apt ay by_ = Y at *
      have H1 := hid h1
      have H2 := hid h2
      have E1 := hid e1
      have E2 := hid e2
      clear h1 h2 e1 e2 h44 h45 h48 ha hb
      obtain ⟨x1, x2⟩ := hX
      obtain ⟨y1, y2⟩ := hY
      unfold C at *
      go_enter Try.func45, Try.ntmps45
      go_upto_region 1 with (fail)
      obtain ⟨W, hW⟩ : ∃ W, W = (w.alloc (.cells #[Value.int .i64 ax, .int .i64 ay] 27)).alloc (.cells #[Value.int .i64 bx, .int .i64 by_] 27) := ⟨_, rfl⟩
      obtain ⟨B, hB⟩ : ∃ B, B = w.heap.size := ⟨_, rfl⟩
      rw [← hW, ← hB]
      obtain ⟨hk, hbe⟩ := two_boxes w ax ay bx by_ W B hW hB
      obtain ⟨a0, a1, a2, a3⟩ := hk W (Below.refl _ _)
      have HK := hid hk
      have HBE := hid hbe
      have HBS : Hid (B + 2 = W.heap.size) := by show _ = _; rw [hW, hB]; simp
      clear hW hB hk hbe
      go_wp2_with fail
      refine Calls.mono (E1.out _) ?_
      rintro e w1 ⟨rfl, hb1⟩
      obtain ⟨b0, b1, b2, b3⟩ := HK.out w1 hb1
      have HB1' := hid hb1
      clear hb1
      go_wp2_with fail
      refine Calls.mono (E2.out _) ?_
      rintro e w2 ⟨rfl, hb2⟩
      have HB2' := hid (HB1'.out.trans (hb2.mono HB1'.out.size))
      obtain ⟨c0, c1, c2, c3⟩ := HK.out w2 HB2'.out
      clear hb2
      go_upto_region 3 with (fail)
      go_quiet (first
        | (go_at_call 33; with_reducible exact Calls.quiet_of_same (H1.out _))
        | (go_at_call 33; with_reducible exact Calls.quiet_of_same (H2.out _)))
      obtain ⟨n, hn⟩ : ∃ n : Nat, (if X < Y then Y else X) = (n : Int) := ⟨(if X < Y then Y else X).toNat, by split <;> omega⟩
      have hn2 : n ≤ 2000 := by split at hn <;> omega
      have hfar : far ax ay bx by_ = (n : Int) := by rw [HF.out, ← hn]; split <;> omega
      have hL : L = (List.range (n + 1)).map (cellAt ax ay bx by_) := by rw [HL.out 0, lineOf, hfar, Int.toNat_natCast]
      subst hL
      rw [hn]
      obtain ⟨V, hV⟩ : ∃ V, V = w2.drewN nq := ⟨_, rfl⟩
      have HBV : Hid (Below W.heap.size W V) := by rw [hV]; exact Below.drewN HB2'.out nq
      rw [← hV]
      obtain ⟨d0, d1, d2, d3⟩ := HK.out V HBV.out
      have HCA : Hid (∀ k : Nat, cellAt ax ay bx by_ k = (btw ax bx k n, btw ay by_ k n)) := fun k => by rw [cellAt, hfar]
      clear hV a0 a1 a2 a3 b0 b1 b2 b3 c0 c1 c2 c3 HB1' HB2' hn HF HL hfar H1 H2 E1 E2 x1 x2 y1 y2
      by_cases h0 : n = 0
      · subst h0
        go_wp2
        go_ret
        have hc : cellAt ax ay bx by_ 0 = (ax, ay) := by have := HCA.out 0; simpa [btw] using this
        have hlt : LineTo (V.alloc (.cells #[Value.int .i64 ax, .int .i64 ay] 27)) V.heap.size 1 1 (cellAt ax ay bx by_) := ⟨#[.int .i64 ax, .int .i64 ay], heap_alloc_last _ _, rfl, fun j hj => by
          obtain rfl : j = 0 := by omega
          rw [hc]; exact ⟨rfl, rfl⟩⟩
        exact ⟨_, rfl, hlt.done, HBE.out _ (HBV.out.alloc HBV.out.size _)⟩
      · have h0' : ((n : Int) == 0) = false := by simp; omega
        obtain ⟨base, hbase⟩ : ∃ base, base = V.heap.size := ⟨_, rfl⟩
        have HVW : Hid (W.heap.size ≤ base) := by rw [hbase]; exact HBV.out.size
        have HBB : Hid (Below base V V) := Below.refl _ _
        go_wp2_with fail
        go_loopw [7, 6] (fun iv lv wr => ∃ k : Nat, k ≤ n + 1 ∧ iv = .int .i64 (k : Int) ∧ Hid (Below V.heap.size V wr) ∧ Hid (OwnC wr V.heap.size lv ((List.range k).map (cellAt ax ay bx by_)))) (fun iv _ _ => n + 1 - (intOf iv).toNat)
        case atStart => exact ⟨0, by omega, rfl, Below.refl _ _, OwnC.nil _ _⟩
        case round =>
          obtain ⟨k, hk, rfl, HB4, HO⟩ := hrel
          by_cases hl : k < n + 1
          · have hl' : (k : Int) ≤ (n : Int) := by omega
            have hl0 : (0 : Int) ≤ (k : Int) := by omega
            have HC1 := hid (HB1.out k n (by omega) hn2 (by omega))
            have HC2 := hid (HB2.out k n (by omega) hn2 (by omega))
            have HCC := hid (HCA.out k)
            unfold btw at HCC
            go_upto_region 10 with fail
            have hq1 := mul_bound (k := (k : Int)) (d := bx - ax) (by omega) (by omega)
            have hq2 := mul_bound (k := (k : Int)) (d := by_ - ay) (by omega) (by omega)
            have u1 : IntKind.i64.wrap (2 * (k : Int)) = 2 * (k : Int) := wrapi (by omega)
            have u2 : IntKind.i64.wrap (2 * (n : Int)) = 2 * (n : Int) := wrapi (by omega)
            have u3 : IntKind.i64.wrap (bx - ax) = bx - ax := wrapi (by omega)
            have u4 : IntKind.i64.wrap (by_ - ay) = by_ - ay := wrapi (by omega)
            have u5 : IntKind.i64.wrap (2 * (k : Int) * (bx - ax)) = 2 * (k : Int) * (bx - ax) := wrapi (by omega)
            have u7 : IntKind.i64.wrap (2 * (k : Int) * (by_ - ay)) = 2 * (k : Int) * (by_ - ay) := wrapi (by omega)
            have u8 : IntKind.i64.wrap (2 * (k : Int) * (bx - ax) + (n : Int)) = 2 * (k : Int) * (bx - ax) + (n : Int) := wrapi (by omega)
            have u9 : IntKind.i64.wrap (2 * (k : Int) * (by_ - ay) + (n : Int)) = 2 * (k : Int) * (by_ - ay) + (n : Int) := wrapi (by omega)
            obtain ⟨q1, hz1⟩ : ∃ q1, q1 = (2 * (k : Int) * (bx - ax) + (n : Int)) / (2 * (n : Int)) := ⟨_, rfl⟩
            obtain ⟨q2, hz2⟩ : ∃ q2, q2 = (2 * (k : Int) * (by_ - ay) + (n : Int)) / (2 * (n : Int)) := ⟨_, rfl⟩
            have v1 := div_small (a := 2 * (k : Int) * (bx - ax) + (n : Int)) (b := 2 * (n : Int)) (by omega) (by omega)
            have v2 := div_small (a := 2 * (k : Int) * (by_ - ay) + (n : Int)) (b := 2 * (n : Int)) (by omega) (by omega)
            rw [← hz1] at HC1 HCC v1
            rw [← hz2] at HC2 HCC v2
            have z1 : IntKind.i64.wrap (ax + q1) = ax + q1 := wrapi (by omega)
            have z2 : IntKind.i64.wrap (ay + q2) = ay + q2 := wrapi (by omega)
            clear hz1 hz2 v1 v2 hq1 hq2
            have dd0 : ∀ x : Nx V, x.w.cell? ⟨B, 0, none⟩ = some (.int .i64 ax) := fun x => (HK.out x.w (HBV.out.trans (x.h.mono HBV.out.size))).1
            have dd1 : ∀ x : Nx V, x.w.cell? ⟨B, 1, none⟩ = some (.int .i64 ay) := fun x => (HK.out x.w (HBV.out.trans (x.h.mono HBV.out.size))).2.1
            have dd2 : ∀ x : Nx V, x.w.cell? ⟨B + 1, 0, none⟩ = some (.int .i64 bx) := fun x => (HK.out x.w (HBV.out.trans (x.h.mono HBV.out.size))).2.2.1
            have dd3 : ∀ x : Nx V, x.w.cell? ⟨B + 1, 1, none⟩ = some (.int .i64 by_) := fun x => (HK.out x.w (HBV.out.trans (x.h.mono HBV.out.size))).2.2.2
            have HBD : Hid (Below V.heap.size V wr.drew) := Below.drewN HB4.out 1
            have HOD : Hid (OwnC wr.drew V.heap.size u6 ((List.range k).map (cellAt ax ay bx by_))) := HO.out.stay fun _ _ => rfl
            obtain ⟨P0, hP0⟩ : ∃ P0, P0 = wr.drew := ⟨_, rfl⟩
            refine wp_region_calm (S := fun w' => ∃ x : Nx V, w' = x.w) [(0, false), (1, false), (2, false), (3, false), (4, false), (5, false), (6, false), (7, false), (8, false), (9, false), (10, false), (11, false), (12, false), (13, false), (14, false), (17, false), (18, false), (19, false), (20, false), (21, false), (22, false), (23, false), (24, false), (25, false), (26, false), (27, false), (28, false), (29, false), (30, false), (15, true), (16, false), (31, true), (32, false), (33, false), (34, true), (35, true), (36, false)] (by kernel_rfl) (by kernel_rfl) rfl (by kernel_rfl) ⟨⟨wr.drew, HBD.out⟩, rfl⟩ ?_
            rw [← hP0] at HBD HOD ⊢
            clear hP0 HO HB4
            repeat (refine plan_take rfl (fun K hK => ?_); go_simp; refine ⟨_, fun _ => rfl, hK _ ?_⟩; clear hK K)
            refine plan_turn rfl (fun K hK => ?_)
            go_simp
            refine Calls.mono (HC1.out _) ?_
            rintro _ w' ⟨rfl, hw⟩
            rw [hw]
            clear hw w'
            refine hK _ _ ⟨⟨P0, HBD.out⟩, rfl⟩ ?_
            clear hK K
            repeat (refine plan_take rfl (fun K hK => ?_); go_simp; refine ⟨_, fun _ => rfl, hK _ ?_⟩; clear hK K)
            refine plan_turn rfl (fun K hK => ?_)
            go_simp
            refine Calls.mono (HC2.out _) ?_
            rintro _ w' ⟨rfl, hw⟩
            rw [hw]
            clear hw w'
            refine hK _ _ ⟨⟨P0, HBD.out⟩, rfl⟩ ?_
            clear hK K
            repeat (refine plan_take rfl (fun K hK => ?_); go_simp; refine ⟨_, fun _ => rfl, hK _ ?_⟩; clear hK K)
            refine plan_turn rfl (fun K hK => ?_)
            go_simp
            obtain ⟨U, hU⟩ : ∃ U, U = P0.alloc (.cells #[Value.int .i64 (ax + q1), .int .i64 (ay + q2)] 27) := ⟨_, rfl⟩
            have HUB : Hid (Below P0.heap.size P0 U) := by rw [hU]; exact (Below.refl _ _).alloc (Nat.le_refl _) _
            have HUG : Hid (Blk U P0.heap.size [.int .i64 (ax + q1, ay + q2).1, .int .i64 (ax + q1, ay + q2).2] 27) := by rw [hU]; exact Blk.new _ _ _
            have HBU := hid (HBD.out.trans (HUB.out.mono HBD.out.size))
            have HOU := hid (HOD.out.below HUB.out)
            have HSL : Hid (((List.range k).map (cellAt ax ay bx by_)).length ≤ 1000000) := by rw [List.length_map, List.length_range]; exact hid (by omega)
            have HNX : Hid ((List.range (k + 1)).map (cellAt ax ay bx by_) = (List.range k).map (cellAt ax ay bx by_) ++ [(ax + q1, ay + q2)]) := by rw [List.range_succ, List.map_append, ← HCC.out]; exact hid rfl
            rw [← hU]
            generalize (List.range k).map (cellAt ax ay bx by_) = xs at *
            refine hK _ _ ⟨⟨U, HBU.out⟩, rfl⟩ ?_
            clear hK K hU HUB HBD HOD dd0 dd1 dd2 dd3 u1 u2 u3 u4 u5 u7 u8 u9 z1 z2
            refine plan_turn rfl (fun K hK => ?_)
            rw [if_pos (by rfl)]
            refine turn_of_list (ops := #[]) rfl ?_
            refine wpL_appendC V.heap.size u6 P0.heap.size xs (ax + q1, ay + q2) rfl rfl HOU.out HUG.out HSL.out HBU.out.size ?_
            intro v' w4 ho4 hg4
            have HB5 := hid (HBU.out.trans (hg4.belowC HOU.out HBU.out.size))
            have HO5 := hid ho4
            clear ho4 hg4
            refine ⟨rfl, hK _ _ ⟨⟨w4, HB5.out⟩, rfl⟩ ?_⟩
            clear hK K
            rw [← HNX.out] at HO5
            simp only [Act.put, List.setIfInBounds_toArray, List.set_cons_zero, List.set_cons_succ]
            (refine plan_take rfl (fun K hK => ?_); go_simp; refine ⟨_, fun _ => rfl, hK _ ?_⟩; clear hK K)
            refine plan_done ⟨rfl, ?_⟩
            go_wp2
            go_roundw
            case rel => exact ⟨k + 1, by omega, by simp, HB5, HO5⟩
            case measure => simp [intOf]; omega
          · obtain rfl : k = n + 1 := by omega
            have hl' : ((n : Int) + 1 ≤ (n : Int)) = False := by simp; omega
            go_wp2
            go_ret
            exact ⟨_, rfl, HO.out.cells, HBE.out _ (HBV.out.trans (HB4.out.mono HBV.out.size))⟩
    · have e1 := h44.out ax ay
      have e2 := h44.out bx by_
      rw [ha] at e1
      rw [hb] at e2
      rw [ha, hb]
      have E1 := hid e1
      have E2 := hid e2
      clear e1 e2 h44 h45 h48 ha hb
      unfold C at *
      go_enter Try.func45, Try.ntmps45
      go_upto_region 1 with (fail)
      obtain ⟨W, hW⟩ : ∃ W, W = (w.alloc (.cells #[Value.int .i64 ax, .int .i64 ay] 27)).alloc (.cells #[Value.int .i64 bx, .int .i64 by_] 27) := ⟨_, rfl⟩
      obtain ⟨B, hB⟩ : ∃ B, B = w.heap.size := ⟨_, rfl⟩
      rw [← hW, ← hB]
      obtain ⟨hk, hbe⟩ := two_boxes w ax ay bx by_ W B hW hB
      obtain ⟨a0, a1, a2, a3⟩ := hk W (Below.refl _ _)
      have HK := hid hk
      have HBE := hid hbe
      clear hW hB hk hbe
      go_wp2_with fail
      refine Calls.mono (E1.out _) ?_
      rintro e w1 ⟨rfl, hb1⟩
      obtain ⟨b0, b1, b2, b3⟩ := HK.out w1 hb1
      have HB1 := hid hb1
      clear hb1
      go_wp2_with fail
      refine Calls.mono (E2.out _) ?_
      rintro e w2 ⟨rfl, hb2⟩
      have HB2 := hid (HB1.out.trans (hb2.mono HB1.out.size))
      clear hb2
      go_wp2
      go_ret
      exact ⟨_, rfl, ⟨none, 0, rfl, fun h => absurd rfl h⟩, HBE.out _ HB2.out⟩
  · have e1 := h44.out ax ay
    rw [ha] at e1
    rw [ha, Bool.false_and]
    have E1 := hid e1
    clear e1 h44 h45 h48 ha
    unfold C at *
    go_enter Try.func45, Try.ntmps45
    go_upto_region 1 with (fail)
    obtain ⟨W, hW⟩ : ∃ W, W = (w.alloc (.cells #[Value.int .i64 ax, .int .i64 ay] 27)).alloc (.cells #[Value.int .i64 bx, .int .i64 by_] 27) := ⟨_, rfl⟩
    obtain ⟨B, hB⟩ : ∃ B, B = w.heap.size := ⟨_, rfl⟩
    rw [← hW, ← hB]
    obtain ⟨hk, hbe⟩ := two_boxes w ax ay bx by_ W B hW hB
    obtain ⟨a0, a1, a2, a3⟩ := hk W (Below.refl _ _)
    have HBE := hid hbe
    clear hW hB hk hbe
    go_wp2_with fail
    refine Calls.mono (E1.out _) ?_
    rintro e w1 ⟨rfl, hb1⟩
    have HB1 := hid hb1
    clear hb1
    go_wp2
    go_ret
    exact ⟨_, rfl, ⟨none, 0, rfl, fun h => absurd rfl h⟩, HBE.out _ HB1.out⟩
end Go.Proofs.Yteijncfnifebjaa
