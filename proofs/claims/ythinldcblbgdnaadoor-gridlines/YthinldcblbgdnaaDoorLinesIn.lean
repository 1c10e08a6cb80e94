/- The walk of the law GridLines, where both cells are measured. -/
import Derived.Test.YthinldcblbgdnaaDoorLinesWalk
namespace Go.Proofs.YthinldcblbgdnaaDoor
open Go.RowKit
/-- The greatest of four. -/
def mx4 (x y z u : Int) : Int := max (max x y) (max z u)
theorem run_max4 {P : Program} {w : World} (ts : Array TypeId) (t : TypeId) (x y z u : Int) : (Builtin.max_ ts t #[.int .i64 x, .int .i64 y, .int .i64 z, .int .i64 u]).run P w = .ok (.int .i64 (mx4 x y z u)) w := by
  have e : (if u > (if z > (if y > x then y else x) then z else (if y > x then y else x)) then u else (if z > (if y > x then y else x) then z else (if y > x then y else x))) = mx4 x y z u := by
    unfold mx4
    split <;> split <;> split <;> omega
  rw [← e]
  simp [Builtin.max_, Builtin.max2]
attribute [local go_sem] run_max4
set_option maxRecDepth 20000 in
set_option maxHeartbeats 8000000 in
theorem lines_in (ax ay bx by_ : Int) (w : World) (hx : Max w) (hm : (meas ax ay && meas bx by_) = true) : Calls Tryd.prog 7 #[C ax ay, C bx by_] w fun e w' => OutT w e w' := by
  have h8 : Hid (∀ W, Max W → Calls Tryd.prog 8 #[] W fun e w' => Out W (.bool true) e w') := awake_any
  have h26 : Hid (∀ W, Calls Tryd.prog 26 #[C ax ay, C bx by_] W fun e w' => OutLine W (lineOf ax ay bx by_) e w') := fun W => by
    have := line_any ax ay bx by_ W
    rwa [lineM, hm, if_pos rfl] at this
  have h24 : Hid (∀ W, Calls Tryd.prog 24 #[C ax ay, C bx by_] W fun e w' => Out W (.int .i64 (dist ax ay bx by_)) e w') := fun W => dist_any ax ay bx by_ W
  have h24b : Hid (∀ W, Calls Tryd.prog 24 #[C bx by_, C ax ay] W fun e w' => Out W (.int .i64 (dist ax ay bx by_)) e w') := fun W => by
    have := dist_any bx by_ ax ay W
    rwa [← dist_comm] at this
  have HX := hid hx
  obtain ⟨n, hn, hfar, hc0, hcn, hbd, hst, hd1, hd2⟩ := line_facts hm
  rw [Bool.and_eq_true] at hm
  have ka := meas_of hm.1
  have kb := meas_of hm.2
  have HFAR : Hid (max (apt ax bx) (apt ay by_) = (n : Int)) := hfar
  unfold OutLine lineOf at h26
  rw [hfar, Int.toNat_natCast] at h26
  have HC0 := hid hc0
  have HCN := hid hcn
  have HBD := hid hbd
  have HST := hid hst
  generalize cellAt ax ay bx by_ = f at *
  generalize dist ax ay bx by_ = D at *
  unfold OutT
  unfold C at *
  clear hx hm hfar hc0 hcn hbd hst
  obtain ⟨g1, g2, g3, g4⟩ := ka
  obtain ⟨g5, g6, g7, g8⟩ := kb
  have HMX : Hid (mx4 (ax - bx) (bx - ax) (ay - by_) (by_ - ay) = (n : Int)) := by have := HFAR.out; unfold apt at this; show mx4 _ _ _ _ = _; unfold mx4; omega
  clear HFAR
  go_enter Tryd.func7, Tryd.ntmps7
  go_upto_region 1 with (fail)
  obtain ⟨W, hW⟩ : ∃ W, W = (w.alloc (.cells #[Value.int .i64 ax, .int .i64 ay] 35)).alloc (.cells #[Value.int .i64 bx, .int .i64 by_] 35) := ⟨_, rfl⟩
  obtain ⟨B, hB⟩ : ∃ B, B = w.heap.size := ⟨_, rfl⟩
  rw [← hW, ← hB]
  obtain ⟨hk, hbe⟩ := two_boxes w ax ay bx by_ W B hW hB
  obtain ⟨a0, a1, a2, a3⟩ := hk W (Below.refl _ _)
  have HK := hid hk
  have HBE := hid hbe
  clear hW hB hk hbe
  go_wp2_with fail
  refine Calls.mono (h8.out _ (Below.max (HBE.out W (Below.refl _ _)) HX.out)) ?_
  rintro e w1 ⟨rfl, hb1⟩
  obtain ⟨b0, b1, b2, b3⟩ := HK.out w1 hb1
  have HB1 := hid hb1
  clear hb1 a0 a1 a2 a3
  go_wp2_with fail
  refine Calls.mono (h26.out _) ?_
  rintro e w2 ⟨v, rfl, hv, hb2⟩
  obtain ⟨p, c, rfl, hcells⟩ := hv
  rw [List.length_map, List.length_range] at hcells ⊢
  obtain ⟨sb, so, rfl, hcs⟩ := hcells (by simp)
  have HCS : Hid (∀ W' (i : Nat), Below w2.heap.size w2 W' → i ≤ n → W'.cell? ⟨sb, so + i * 2, none⟩ = some (.int .i64 (f i).1) ∧ W'.cell? ⟨sb, so + i * 2 + 1, none⟩ = some (.int .i64 (f i).2)) := fun W' i h hi => by
    have h1 := hcs i (by omega)
    have e : ((List.range (n + 1)).map f).getD i (0, 0) = f i := by simp [show i < n + 1 by omega]
    rw [e] at h1
    rw [h.cell (p := ⟨sb, so + i * 2, none⟩) (lt_of_cell h1.1), h.cell (p := ⟨sb, so + i * 2 + 1, none⟩) (lt_of_cell h1.2)]
    exact h1
  have HB2 := hid (HB1.out.trans (hb2.mono HB1.out.size))
  obtain ⟨c0, c1, c2, c3⟩ := HK.out w2 HB2.out
  clear hb2 b0 b1 b2 b3 HB1 hcs hcells
  have q1 : (ax < -1000) = False := by simp; omega
  have q2 : (1000 < ax) = False := by simp; omega
  have q3 : (ay < -1000) = False := by simp; omega
  have q4 : (1000 < ay) = False := by simp; omega
  have q5 : (bx < -1000) = False := by simp; omega
  have q6 : (1000 < bx) = False := by simp; omega
  have q7 : (by_ < -1000) = False := by simp; omega
  have q8 : (1000 < by_) = False := by simp; omega
  go_upto_region 6 with fail
  clear q1 q2 q3 q4 q5 q6 q7 q8
  go_upto_region 7 with fail
  rw [HMX.out]
  clear HMX
  have k0 := HCS.out w2 0 (Below.refl _ _) (by omega)
  have kn := HCS.out w2 n (Below.refl _ _) (by omega)
  rw [HC0.out] at k0
  rw [HCN.out] at kn
  obtain ⟨k00, k01⟩ := k0
  obtain ⟨kn0, kn1⟩ := kn
  rw [Nat.zero_mul, Nat.add_zero] at k00 k01
  simp only at k00 k01 kn0 kn1
  have i0 : (0 : Int) < (n : Int) + 1 := by omega
  have i1 : (n : Int) < (n : Int) + 1 := by omega
  have i2 : (0 : Int) ≤ (n : Int) := by omega
  go_quiet (fail)
  have HBV : Hid (Below w2.heap.size w2 (w2.drewN nq)) := Below.drewN (Below.refl _ _) nq
  generalize w2.drewN nq = V at *
  clear k00 k01 kn0 kn1 c0 c1 c2 c3 i0 i1
  go_wp2_with fail
  go_loopw [7] (fun iv wr => ∃ i : Nat, 1 ≤ i ∧ i ≤ n + 1 ∧ iv = .int .i64 (i : Int) ∧ Hid (Below w2.heap.size w2 wr)) (fun iv _ => n + 1 - (intOf iv).toNat)
  case atStart => exact ⟨1, by omega, by omega, rfl, HBV⟩
  case round =>
    clear HBV
    obtain ⟨i, hi1, hi2, rfl, HBV⟩ := hrel
    by_cases hl : i ≤ n
    · have hl' : (i : Int) < (n : Int) + 1 := by omega
      obtain ⟨j, rfl⟩ : ∃ j, i = j + 1 := ⟨i - 1, by omega⟩
      have e1 : (((j + 1 : Nat) : Int)) - 1 = (j : Int) := by omega
      have e2 : (0 : Int) ≤ (j : Int) := by omega
      have e3 : (j : Int) < (n : Int) + 1 := by omega
      obtain ⟨ka0, ka1⟩ := HCS.out wr (j + 1) HBV.out hl
      obtain ⟨kb0, kb1⟩ := HCS.out wr j HBV.out (by omega)
      obtain ⟨s1, s2, s3, s4, s5⟩ := HST.out j hl
      obtain ⟨u1, u2, u3, u4⟩ := HBD.out (j + 1) hl
      obtain ⟨v1, v2, v3, v4⟩ := HBD.out j (by omega)
      generalize (f (j + 1)).1 = X1 at *
      generalize (f (j + 1)).2 = Y1 at *
      generalize (f j).1 = X0 at *
      generalize (f j).2 = Y0 at *
      have t1 : (X1 - X0 < -1) = False := by simp; omega
      have t2 : (1 < X1 - X0) = False := by simp; omega
      have t3 : (Y1 - Y0 < -1) = False := by simp; omega
      have t4 : (1 < Y1 - Y0) = False := by simp; omega
      have hjn : (j : Int) < (n : Int) := by omega
      have e4 : (0 : Int) ≤ (j : Int) + 1 := by omega
      have e5 : (j : Int) + 1 < (n : Int) + 1 := by omega
      have e6 : (j : Int) + 1 - 1 = (j : Int) := by omega
      clear e1
      go_upto_region 12 with fail
      go_quiet (fail)
      have HBV2 : Hid (Below w2.heap.size w2 (wr.drewN nq)) := Below.drewN HBV.out nq
      generalize wr.drewN nq = V2 at *
      clear ka0 ka1 kb0 kb1 HBV
      by_cases hx0 : X1 - X0 = 0
      · have hx1 : (X1 - X0 == 0) = true := by simpa using hx0
        have hy1 : (Y1 - Y0 == 0) = false := by simpa using fun h => s5 ⟨hx0, h⟩
        clear s5 hx0
        go_wp2
        go_roundw
        case rel => exact ⟨j + 1 + 1, by omega, by omega, by simp, HBV2⟩
        case measure => simp [intOf]; omega
      · have hx1 : (X1 - X0 == 0) = false := by simpa using hx0
        clear s5 hx0
        go_wp2
        go_roundw
        case rel => exact ⟨j + 1 + 1, by omega, by omega, by simp, HBV2⟩
        case measure => simp [intOf]; omega
    · obtain rfl : i = n + 1 := by omega
      have hl' : ((n : Int) + 1 < (n : Int) + 1) = False := by simp
      go_upto_region 15 with fail
      have HWR := hid (HB2.out.trans (HBV.out.mono HB2.out.size))
      have c0 : ∀ x : Nx wr, x.w.cell? ⟨B, 0, none⟩ = some (.int .i64 ax) := fun x => (HK.out x.w (HWR.out.trans (x.h.mono HWR.out.size))).1
      have c1 : ∀ x : Nx wr, x.w.cell? ⟨B, 1, none⟩ = some (.int .i64 ay) := fun x => (HK.out x.w (HWR.out.trans (x.h.mono HWR.out.size))).2.1
      have c2 : ∀ x : Nx wr, x.w.cell? ⟨B + 1, 0, none⟩ = some (.int .i64 bx) := fun x => (HK.out x.w (HWR.out.trans (x.h.mono HWR.out.size))).2.2.1
      have c3 : ∀ x : Nx wr, x.w.cell? ⟨B + 1, 1, none⟩ = some (.int .i64 by_) := fun x => (HK.out x.w (HWR.out.trans (x.h.mono HWR.out.size))).2.2.2
      have m1 : (2 * (n : Int)) ≤ 9223372036854775807 := by omega
      have hne := Nx.some wr
      refine wp_region_nx (by kernel_rfl) (by kernel_rfl) ?_
      repeat (first
        | go_big_quiet_skip
        | (go_big_quiet_want; go_big_quiet_op; first
          | go_big_quiet_on
          | (apply Exists.intro
             refine ⟨fun x => ?_, ?_⟩
             · first
               | (go_at_call 24; with_reducible exact nx_call x (h24.out _))
               | (go_at_call 24; with_reducible exact nx_call x (h24b.out _))
             go_big_quiet_on)))
      refine wpQuiet_nil ?_
      rintro _ ⟨x, rfl⟩
      go_wp2
      go_ret
      exact ⟨rfl, HBE.out _ (HWR.out.trans (x.h.mono HWR.out.size))⟩
end Go.Proofs.YthinldcblbgdnaaDoor
