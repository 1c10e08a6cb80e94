/- The walk of the law GridAsks. -/
import Derived.Test.YthinldcblbgdnaaDoorSeenWalk
import Derived.Test.YthinldcblbgdnaaDoorRefL
import Derived.Test.YthinldcblbgdnaaDoorRefE
import Derived.Test.YthinldcblbgdnaaDoorRefN
import Derived.Test.YthinldcblbgdnaaDoorRefD
import Derived.Test.YthinldcblbgdnaaDoorRefI
namespace Go.Proofs.YthinldcblbgdnaaDoor
open Go.RowKit
theorem near_len (m : Mp) (x y : Int) : (near m x y).length ≤ 4 := by
  unfold near
  split
  · exact Nat.le_trans (List.length_filter_le _ _) (by simp [nbs])
  · simp
theorem lineM_len (ax ay bx by_ : Int) : (lineM ax ay bx by_).length ≤ 2001 := by
  unfold lineM
  split
  · rename_i h
    rw [Bool.and_eq_true] at h
    have := meas_of h.1
    have := meas_of h.2
    have hf : far ax ay bx by_ ≤ 2000 := by unfold far apt; omega
    simp [lineOf]
    omega
  · simp
set_option maxRecDepth 20000 in
set_option maxHeartbeats 8000000 in
theorem asks_many (m : Mp) (v : Value) (ax ay bx by_ : Int) (w : World) (hm : MapAt w v m) (hx : Max w) (hf : (decide (m.ts.length ≤ 1000) && decide (m.os.length ≤ 1000)) = false) : Calls Tryd.prog 4 #[v, C ax ay, C bx by_] w fun e w' => OutT w e w' := by
  have h8 : Hid (∀ W, Max W → Calls Tryd.prog 8 #[] W fun e w' => Out W (.bool true) e w') := awake_any
  obtain ⟨p, c, q, d, rfl, -, -⟩ := hm
  obtain ⟨a, b, ts, os⟩ := m
  simp only at hf ⊢
  generalize ts.length = M at *
  generalize os.length = N at *
  have h9 : Hid (∀ W, Calls Tryd.prog 9 #[.agg #[.int .i64 a, .int .i64 b, .slice p M c, .slice q N d]] W fun e w' => Out W (.bool false) e w') := fun W => by
    have := few_any a b p q M N c d W
    rwa [hf] at this
  have HX := hid hx
  clear hf hx
  unfold OutT
  unfold C at *
  go_enter Tryd.func4, Tryd.ntmps4
  go_upto_region 1 with (fail)
  obtain ⟨W, hW⟩ : ∃ W, W = ((w.alloc (.cells #[Value.int .i64 a, .int .i64 b, .slice p M c, .slice q N d] 24)).alloc (.cells #[Value.int .i64 ax, .int .i64 ay] 35)).alloc (.cells #[Value.int .i64 bx, .int .i64 by_] 35) := ⟨_, rfl⟩
  obtain ⟨B, hB⟩ : ∃ B, B = w.heap.size := ⟨_, rfl⟩
  rw [← hW, ← hB]
  obtain ⟨hk, hbe⟩ := map_cells_box w a b _ _ ax ay bx by_ W B hW hB
  have HBE := hid hbe
  have HK := hid hk
  clear hW hB hk hbe
  go_wp2_with fail
  refine Calls.mono (h8.out _ (Below.max (HBE.out W (Below.refl _ _)) HX.out)) ?_
  rintro e w1 ⟨rfl, hb1⟩
  have HB1 := hid hb1
  obtain ⟨b0, b1, b2, b3, b4, b5, b6, b7⟩ := HK.out w1 hb1
  clear hb1
  go_wp2_with fail
  refine Calls.mono (h9.out _) ?_
  rintro e w2 ⟨rfl, hb2⟩
  have HB2 := hid (HB1.out.trans (hb2.mono HB1.out.size))
  clear hb2 b0 b1 b2 b3 b4 b5 b6 b7
  go_wp2_with fail
  refine Calls.mono (h8.out _ (Below.max (HBE.out w2 HB2.out) HX.out)) ?_
  rintro e w3 ⟨rfl, hb3⟩
  have HB3 := hid (HB2.out.trans (hb3.mono HB2.out.size))
  clear hb3
  go_wp2
  go_ret
  exact ⟨rfl, HBE.out _ HB3.out⟩
set_option maxRecDepth 100000 in
set_option maxHeartbeats 16000000 in
theorem asks_walk (m : Mp) (v : Value) (ax ay bx by_ : Int) (w : World) (hax : I64 ax) (hay : I64 ay) (hm : MapAt w v m) (hx : Max w) (hf : (decide (m.ts.length ≤ 1000) && decide (m.os.length ≤ 1000)) = true) : Calls Tryd.prog 4 #[v, C ax ay, C bx by_] w fun e w' => OutT w e w' := by
  have h8 : Hid (∀ W, Max W → Calls Tryd.prog 8 #[] W fun e w' => Out W (.bool true) e w') := awake_any
  have h28 : Hid (∀ W v, MapAt W v m → Calls Tryd.prog 28 #[v, C ax ay, C bx by_] W fun e w' => Out W (.bool (sees m ax ay bx by_)) e w') := fun W v h => sees_any m v ax ay bx by_ W h
  have h29 : Hid (∀ W v, MapAt W v m → Calls Tryd.prog 29 #[v, C ax ay, C bx by_] W fun e w' => Out W (.bool (sees m ax ay bx by_)) e w') := fun W v h => refSees_any refLine_any m v ax ay bx by_ W h
  have h17 : Hid (∀ W v, MapAt W v m → Calls Tryd.prog 17 #[v, C ax ay] W fun e w' => Out W (.bool (formed m && holds m ax ay)) e w') := fun W v h => inside_any m v ax ay W h
  have h18 : Hid (∀ W v, MapAt W v m → Calls Tryd.prog 18 #[v, C ax ay] W fun e w' => Out W (.bool (formed m && holds m ax ay)) e w') := fun W v h => refInside_any m v ax ay W h
  have h19 : Hid (∀ W v, MapAt W v m → Calls Tryd.prog 19 #[v, C ax ay] W fun e w' => Out W (.bool (free m ax ay)) e w') := fun W v h => free_any m v ax ay W h
  have h20 : Hid (∀ W v, MapAt W v m → Calls Tryd.prog 20 #[v, C ax ay] W fun e w' => Out W (.bool (free m ax ay)) e w') := fun W v h => refFree_any m v ax ay W h
  have n22 : Hid (∀ W v, MapAt W v m → Calls Tryd.prog 22 #[v, C ax ay] W fun e w' => OutLine W (near m ax ay) e w') := fun W v h => near_any m v ax ay W h
  have n23 : Hid (∀ W v, MapAt W v m → Calls Tryd.prog 23 #[v, C ax ay] W fun e w' => OutLine W (near m ax ay) e w') := fun W v h => refNear_any m v ax ay W (by unfold I64 at hax; omega) (by unfold I64 at hay; omega) h
  have h24 : Hid (∀ W, Calls Tryd.prog 24 #[C ax ay, C bx by_] W fun e w' => Out W (.int .i64 (dist ax ay bx by_)) e w') := fun W => dist_any ax ay bx by_ W
  have h25 : Hid (∀ W, Calls Tryd.prog 25 #[C ax ay, C bx by_] W fun e w' => Out W (.int .i64 (dist ax ay bx by_)) e w') := fun W => refDist_any ax ay bx by_ W
  have l26 : Hid (∀ W, Calls Tryd.prog 26 #[C ax ay, C bx by_] W fun e w' => OutLine W (lineM ax ay bx by_) e w') := fun W => line_any ax ay bx by_ W
  have l27 : Hid (∀ W, Calls Tryd.prog 27 #[C ax ay, C bx by_] W fun e w' => OutLine W (lineM ax ay bx by_) e w') := fun W => refLine_any ax ay bx by_ W
  have HSC : Hid (∀ (cs : List (Int × Int)) (p q : Option Addr) (N cap cap' : Nat) (W : World), CellsAt W (.slice p N cap) cs → CellsAt W (.slice q N cap') cs → N < 1000000000 → Calls Tryd.prog 21 #[.slice p N cap, .slice q N cap'] W fun e w' => Out W (.bool true) e w') := refSameCells
  have HNL : Hid ((near m ax ay).length < 1000000000) := by have := near_len m ax ay; exact hid (by omega)
  have HLL : Hid ((lineM ax ay bx by_).length < 1000000000) := by have := lineM_len ax ay bx by_; exact hid (by omega)
  have HM := hid (fun W (h : Below w.heap.size w W) => hm.below h)
  obtain ⟨p, c, q, d, rfl, -, -⟩ := hm
  clear hax hay
  generalize sees m ax ay bx by_ = S at *
  generalize (formed m && holds m ax ay) = IA at *
  generalize free m ax ay = FA at *
  generalize near m ax ay = NL at *
  generalize lineM ax ay bx by_ = LL at *
  generalize dist ax ay bx by_ = D at *
  obtain ⟨a, b, ts, os⟩ := m
  simp only at hf HM ⊢
  generalize ts.length = M at *
  generalize os.length = N at *
  have h9 : Hid (∀ W, Calls Tryd.prog 9 #[.agg #[.int .i64 a, .int .i64 b, .slice p M c, .slice q N d]] W fun e w' => Out W (.bool true) e w') := fun W => by
    have := few_any a b p q M N c d W
    rwa [hf] at this
  have HX := hid hx
  clear hf hx
  unfold OutT
  unfold C at *
  go_enter Tryd.func4, Tryd.ntmps4
  go_upto_region 1 with (fail)
  obtain ⟨W, hW⟩ : ∃ W, W = ((w.alloc (.cells #[Value.int .i64 a, .int .i64 b, .slice p M c, .slice q N d] 24)).alloc (.cells #[Value.int .i64 ax, .int .i64 ay] 35)).alloc (.cells #[Value.int .i64 bx, .int .i64 by_] 35) := ⟨_, rfl⟩
  obtain ⟨B, hB⟩ : ∃ B, B = w.heap.size := ⟨_, rfl⟩
  rw [← hW, ← hB]
  obtain ⟨hk, hbe⟩ := map_cells_box w a b _ _ ax ay bx by_ W B hW hB
  have HBE := hid hbe
  have HK := hid hk
  clear hW hB hk hbe
  go_wp2_with fail
  refine Calls.mono (h8.out _ (Below.max (HBE.out W (Below.refl _ _)) HX.out)) ?_
  rintro e w1 ⟨rfl, hb1⟩
  have HB1 := hid hb1
  obtain ⟨b0, b1, b2, b3, b4, b5, b6, b7⟩ := HK.out w1 hb1
  clear hb1
  go_wp2_with fail
  refine Calls.mono (h9.out _) ?_
  rintro e w2 ⟨rfl, hb2⟩
  have HB1' := hid (HB1.out.trans (hb2.mono HB1.out.size))
  clear hb2 b0 b1 b2 b3 b4 b5 b6 b7 HB1
  have HNX : Hid (∀ x : Nx w2, x.w.cell? ⟨B, 0, none⟩ = some (.int .i64 a) ∧ x.w.cell? ⟨B, 1, none⟩ = some (.int .i64 b) ∧ x.w.cell? ⟨B, 2, none⟩ = some (.slice p M c) ∧ x.w.cell? ⟨B, 3, none⟩ = some (.slice q N d) ∧ x.w.cell? ⟨B + 1, 0, none⟩ = some (.int .i64 ax) ∧ x.w.cell? ⟨B + 1, 1, none⟩ = some (.int .i64 ay) ∧ x.w.cell? ⟨B + 2, 0, none⟩ = some (.int .i64 bx) ∧ x.w.cell? ⟨B + 2, 1, none⟩ = some (.int .i64 by_)) := fun x => HK.out x.w (HB1'.out.trans (x.h.mono HB1'.out.size))
  have HMX : Hid (∀ V, Below w2.heap.size w2 V → MapAt V (.agg #[.int .i64 a, .int .i64 b, .slice p M c, .slice q N d]) ⟨a, b, ts, os⟩) := fun V h => HM.out _ (HBE.out _ (HB1'.out.trans (h.mono HB1'.out.size)))
  go_upto_region 3 with fail
  have n0 := fun x => (HNX.out x).1
  have n1 := fun x => (HNX.out x).2.1
  have n2 := fun x => (HNX.out x).2.2.1
  have n3 := fun x => (HNX.out x).2.2.2.1
  have n4 := fun x => (HNX.out x).2.2.2.2.1
  have n5 := fun x => (HNX.out x).2.2.2.2.2.1
  have n6 := fun x => (HNX.out x).2.2.2.2.2.2.1
  have n7 := fun x => (HNX.out x).2.2.2.2.2.2.2
  have HB2 : Hid (Below w2.heap.size w2 w2.drew) := Below.drewN (Below.refl _ _) 1
  refine wp_region_calm (S := fun w' => ∃ x : Nx w2, w' = x.w) [(0, false), (1, false), (3, false), (4, false), (2, true), (5, true), (6, false), (7, false), (8, false), (9, false), (11, false), (12, false), (10, true), (13, true), (14, false), (15, false), (16, false), (17, false), (18, false), (20, false), (21, false), (19, true), (22, true), (23, true), (24, false), (25, false), (26, false), (27, false), (29, false), (30, false), (28, true), (31, true), (32, false), (33, false), (34, false), (35, false), (36, false), (38, false), (39, false), (37, true), (40, true), (41, true), (42, false), (43, false), (44, false), (45, false), (46, false), (48, false), (49, false), (50, false), (47, true), (51, true), (52, false), (53, false), (54, false)] (by kernel_rfl) (by kernel_rfl) rfl (by kernel_rfl) ⟨⟨w2.drew, HB2.out⟩, rfl⟩ ?_
  obtain ⟨P0, hP0⟩ : ∃ P0, P0 = w2.drew := ⟨_, rfl⟩
  rw [← hP0] at HB2 ⊢
  clear hP0
  iterate 4 (refine plan_take rfl (fun K hK => ?_); go_simp; refine ⟨_, fun _ => rfl, hK _ ?_⟩; clear hK K)
  refine plan_turn rfl (fun K hK => ?_)
  go_simp
  refine Calls.mono (h17.out _ _ (HMX.out _ HB2.out)) ?_
  rintro _ w3 ⟨rfl, hw⟩
  have HB3 : Hid (Below w2.heap.size w2 w3) := HB2.out.trans (hw.mono HB2.out.size)
  refine hK _ _ ⟨⟨w3, HB3.out⟩, rfl⟩ ?_
  clear hK K hw 
  refine plan_turn rfl (fun K hK => ?_)
  go_simp
  refine Calls.mono (h18.out _ _ (HMX.out _ HB3.out)) ?_
  rintro _ w4 ⟨rfl, hw⟩
  have HB4 : Hid (Below w2.heap.size w2 w4) := HB3.out.trans (hw.mono HB3.out.size)
  refine hK _ _ ⟨⟨w4, HB4.out⟩, rfl⟩ ?_
  clear hK K hw HB3
  iterate 6 (refine plan_take rfl (fun K hK => ?_); go_simp; refine ⟨_, fun _ => rfl, hK _ ?_⟩; clear hK K)
  refine plan_turn rfl (fun K hK => ?_)
  go_simp
  refine Calls.mono (h19.out _ _ (HMX.out _ HB4.out)) ?_
  rintro _ w5 ⟨rfl, hw⟩
  have HB5 : Hid (Below w2.heap.size w2 w5) := HB4.out.trans (hw.mono HB4.out.size)
  refine hK _ _ ⟨⟨w5, HB5.out⟩, rfl⟩ ?_
  clear hK K hw HB4
  refine plan_turn rfl (fun K hK => ?_)
  go_simp
  refine Calls.mono (h20.out _ _ (HMX.out _ HB5.out)) ?_
  rintro _ w6 ⟨rfl, hw⟩
  have HB6 : Hid (Below w2.heap.size w2 w6) := HB5.out.trans (hw.mono HB5.out.size)
  refine hK _ _ ⟨⟨w6, HB6.out⟩, rfl⟩ ?_
  clear hK K hw HB5
  iterate 7 (refine plan_take rfl (fun K hK => ?_); go_simp; refine ⟨_, fun _ => rfl, hK _ ?_⟩; clear hK K)
  refine plan_turn rfl (fun K hK => ?_)
  go_simp
  refine Calls.mono (n22.out _ _ (HMX.out _ HB6.out)) ?_
  rintro _ w7 ⟨v7, rfl, ⟨p1, c1, rfl, hc1⟩, hw⟩
  have HB7 : Hid (Below w2.heap.size w2 w7) := HB6.out.trans (hw.mono HB6.out.size)
  have HC1 : Hid (CellsAt w7 (.slice p1 NL.length c1) NL) := ⟨_, _, rfl, hc1⟩
  clear hc1
  refine hK _ _ ⟨⟨w7, HB7.out⟩, rfl⟩ ?_
  clear hK K hw HB6
  refine plan_turn rfl (fun K hK => ?_)
  go_simp
  refine Calls.mono (n23.out _ _ (HMX.out _ HB7.out)) ?_
  rintro _ w8 ⟨v8, rfl, ⟨p2, c2, rfl, hc2⟩, hw⟩
  have HB8 : Hid (Below w2.heap.size w2 w8) := HB7.out.trans (hw.mono HB7.out.size)
  have HBS := hid hw
  have HC2 : Hid (CellsAt w8 (.slice p2 NL.length c2) NL) := ⟨_, _, rfl, hc2⟩
  clear hc2
  refine hK _ _ ⟨⟨w8, HB8.out⟩, rfl⟩ ?_
  clear hK K hw HB7
  refine plan_turn rfl (fun K hK => ?_)
  go_simp
  refine Calls.mono (HSC.out NL p1 p2 NL.length c1 c2 _ (CellsAt.below HC1.out HBS.out) HC2.out HNL.out) ?_
  rintro _ w9 ⟨rfl, hw⟩
  have HB9 : Hid (Below w2.heap.size w2 w9) := HB8.out.trans (hw.mono HB8.out.size)
  clear HC1 HC2 HBS
  refine hK _ _ ⟨⟨w9, HB9.out⟩, rfl⟩ ?_
  clear hK K hw HB8
  iterate 6 (refine plan_take rfl (fun K hK => ?_); go_simp; refine ⟨_, fun _ => rfl, hK _ ?_⟩; clear hK K)
  refine plan_turn rfl (fun K hK => ?_)
  go_simp
  refine Calls.mono (h24.out _) ?_
  rintro _ w10 ⟨rfl, hw⟩
  have HB10 : Hid (Below w2.heap.size w2 w10) := HB9.out.trans (hw.mono HB9.out.size)
  refine hK _ _ ⟨⟨w10, HB10.out⟩, rfl⟩ ?_
  clear hK K hw HB9
  refine plan_turn rfl (fun K hK => ?_)
  go_simp
  refine Calls.mono (h25.out _) ?_
  rintro _ w11 ⟨rfl, hw⟩
  have HB11 : Hid (Below w2.heap.size w2 w11) := HB10.out.trans (hw.mono HB10.out.size)
  refine hK _ _ ⟨⟨w11, HB11.out⟩, rfl⟩ ?_
  clear hK K hw HB10
  iterate 7 (refine plan_take rfl (fun K hK => ?_); go_simp; refine ⟨_, fun _ => rfl, hK _ ?_⟩; clear hK K)
  refine plan_turn rfl (fun K hK => ?_)
  go_simp
  refine Calls.mono (l26.out _) ?_
  rintro _ w12 ⟨v12, rfl, ⟨p1, c1, rfl, hc1⟩, hw⟩
  have HB12 : Hid (Below w2.heap.size w2 w12) := HB11.out.trans (hw.mono HB11.out.size)
  have HC1 : Hid (CellsAt w12 (.slice p1 LL.length c1) LL) := ⟨_, _, rfl, hc1⟩
  clear hc1
  refine hK _ _ ⟨⟨w12, HB12.out⟩, rfl⟩ ?_
  clear hK K hw HB11
  refine plan_turn rfl (fun K hK => ?_)
  go_simp
  refine Calls.mono (l27.out _) ?_
  rintro _ w13 ⟨v13, rfl, ⟨p2, c2, rfl, hc2⟩, hw⟩
  have HB13 : Hid (Below w2.heap.size w2 w13) := HB12.out.trans (hw.mono HB12.out.size)
  have HBS := hid hw
  have HC2 : Hid (CellsAt w13 (.slice p2 LL.length c2) LL) := ⟨_, _, rfl, hc2⟩
  clear hc2
  refine hK _ _ ⟨⟨w13, HB13.out⟩, rfl⟩ ?_
  clear hK K hw HB12
  refine plan_turn rfl (fun K hK => ?_)
  go_simp
  refine Calls.mono (HSC.out LL p1 p2 LL.length c1 c2 _ (CellsAt.below HC1.out HBS.out) HC2.out HLL.out) ?_
  rintro _ w14 ⟨rfl, hw⟩
  have HB14 : Hid (Below w2.heap.size w2 w14) := HB13.out.trans (hw.mono HB13.out.size)
  clear HC1 HC2 HBS
  refine hK _ _ ⟨⟨w14, HB14.out⟩, rfl⟩ ?_
  clear hK K hw HB13
  iterate 8 (refine plan_take rfl (fun K hK => ?_); go_simp; refine ⟨_, fun _ => rfl, hK _ ?_⟩; clear hK K)
  refine plan_turn rfl (fun K hK => ?_)
  go_simp
  refine Calls.mono (h28.out _ _ (HMX.out _ HB14.out)) ?_
  rintro _ w15 ⟨rfl, hw⟩
  have HB15 : Hid (Below w2.heap.size w2 w15) := HB14.out.trans (hw.mono HB14.out.size)
  refine hK _ _ ⟨⟨w15, HB15.out⟩, rfl⟩ ?_
  clear hK K hw HB14
  refine plan_turn rfl (fun K hK => ?_)
  go_simp
  refine Calls.mono (h29.out _ _ (HMX.out _ HB15.out)) ?_
  rintro _ w16 ⟨rfl, hw⟩
  have HB16 : Hid (Below w2.heap.size w2 w16) := HB15.out.trans (hw.mono HB15.out.size)
  refine hK _ _ ⟨⟨w16, HB16.out⟩, rfl⟩ ?_
  clear hK K hw HB15
  iterate 3 (refine plan_take rfl (fun K hK => ?_); go_simp; refine ⟨_, fun _ => rfl, hK _ ?_⟩; clear hK K)
  refine plan_done ⟨rfl, ?_⟩
  have HBZ := hid (HBE.out _ (HB1'.out.trans (HB16.out.mono HB1'.out.size)))
  clear n0 n1 n2 n3 n4 n5 n6 n7
  go_wp2
  go_ret
  exact ⟨rfl, HBZ.out⟩
end Go.Proofs.YthinldcblbgdnaaDoor
