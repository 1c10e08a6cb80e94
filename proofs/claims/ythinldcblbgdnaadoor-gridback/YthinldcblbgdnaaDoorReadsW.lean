/- The walk of the law GridReads. -/
import Derived.Test.YthinldcblbgdnaaDoorText
import Derived.Test.YthinldcblbgdnaaDoorRefR
import Derived.Test.YthinldcblbgdnaaDoorSam
import Derived.Test.YthinldcblbgdnaaDoorPlan
import Derived.Test.YthinldcblbgdnaaDoorRefF
namespace Go.Proofs.YthinldcblbgdnaaDoor
open Go.RowKit
set_option maxRecDepth 20000 in
set_option maxHeartbeats 8000000 in
theorem gridReads_many (s : ByteArray) (m : Mp) (v : Value) (w : World) (hm : MapAt w v m) (hx : Max w) (hf : (decide (m.ts.length ≤ 1000) && decide (m.os.length ≤ 1000)) = false) : Calls Tryd.prog 3 #[.string s, v] w fun e w' => e = .returned (.bool true) ∧ Below w.heap.size w w' := by
  have h8 : Hid (∀ W, Max W → Calls Tryd.prog 8 #[] W fun e w' => Out W (.bool true) e w') := awake_any
  obtain ⟨p, c, q, d, rfl, -, -⟩ := hm
  obtain ⟨a, b, ts, os⟩ := m
  simp only at hf ⊢
  generalize ts.length = M at *
  generalize os.length = N at *
  have h9 : Hid (∀ W, Calls Tryd.prog 9 #[.agg #[.int .i64 a, .int .i64 b, .slice p M c, .slice q N d]] W fun e w' => Out W (.bool false) e w') := fun W => by
    have := few_any a b p q M N c d W
    rwa [hf] at this
  have HX := hid hx
  clear hf hx
  go_enter Tryd.func3, Tryd.ntmps3
  go_upto_region 1 with (fail)
  obtain ⟨W, hW⟩ : ∃ W, W = w.alloc (.cells #[Value.int .i64 a, .int .i64 b, .slice p M c, .slice q N d] 24) := ⟨_, rfl⟩
  obtain ⟨B, hB⟩ : ∃ B, B = w.heap.size := ⟨_, rfl⟩
  rw [← hW, ← hB]
  obtain ⟨hk, hbe⟩ := map_box w a b _ _ W B hW hB
  have HBE := hid hbe
  have HK := hid hk
  clear hW hB hk hbe
  go_wp2_with fail
  refine Calls.mono (h8.out _ (Below.max (HBE.out W (Below.refl _ _)) HX.out)) ?_
  rintro e w1 ⟨rfl, hb1⟩
  have HB1 := hid hb1
  obtain ⟨b0, b1, b2, b3⟩ := HK.out w1 hb1
  clear hb1
  go_wp2_with fail
  refine Calls.mono (h9.out _) ?_
  rintro e w2 ⟨rfl, hb2⟩
  have HB2 := hid (HB1.out.trans (hb2.mono HB1.out.size))
  clear hb2 b0 b1 b2 b3
  go_wp2_with fail
  refine Calls.mono (h8.out _ (Below.max (HBE.out w2 HB2.out) HX.out)) ?_
  rintro e w3 ⟨rfl, hb3⟩
  have HB3 := hid (HB2.out.trans (hb3.mono HB2.out.size))
  clear hb3
  go_wp2
  go_ret
  exact ⟨rfl, HBE.out _ HB3.out⟩
theorem readM_len (s : ByteArray) : (readM s).ts.length ≤ 1000000 ∧ (readM s).os.length ≤ 1000000 := by
  unfold readM
  split
  · rename_i h
    rw [Bool.and_eq_true] at h
    obtain ⟨h1, h2, h3, h4, -⟩ := formed_of h.2.2
    have := prod_bound h1 h2
    exact ⟨by omega, by omega⟩
  · exact ⟨by simp, by simp⟩
set_option maxRecDepth 100000 in
set_option maxHeartbeats 16000000 in
theorem gridReads_walk (s : ByteArray) (m : Mp) (v : Value) (w : World) (hm : MapAt w v m) (hx : Max w) (hf : (decide (m.ts.length ≤ 1000) && decide (m.os.length ≤ 1000)) = true) : Calls Tryd.prog 3 #[.string s, v] w fun e w' => e = .returned (.bool true) ∧ Below w.heap.size w w' := by
  have h8 : Hid (∀ W, Max W → Calls Tryd.prog 8 #[] W fun e w' => Out W (.bool true) e w') := awake_any
  have h10 : Hid (∀ W, Max W → Calls Tryd.prog 10 #[.string s] W fun e w' => OutRead W s e w') := fun W h => read_any s W h
  have h11 : Hid (∀ W, Calls Tryd.prog 11 #[.string s] W fun e w' => OutRead W s e w') := fun W => refRead_any s W
  have h12 : Hid (∀ W v, MapAt W v m → Calls Tryd.prog 12 #[v] W fun e w' => OutText W m e w') := fun W v h => text_any m v W h
  have h13 : Hid (∀ W v, MapAt W v m → Calls Tryd.prog 13 #[v] W fun e w' => OutText W m e w') := fun W v h => refText_any m v W h
  have h15 : Hid (∀ W v, MapAt W v m → Calls Tryd.prog 15 #[v] W fun e w' => Out W (.bool (formed m)) e w') := fun W v h => formed_any m v W h
  have h16 : Hid (∀ W v, MapAt W v m → Calls Tryd.prog 16 #[v] W fun e w' => Out W (.bool (formed m)) e w') := fun W v h => refFormed_any m v W h
  have hl := readM_len s
  have h14 : Hid (∀ W v v', MapAt W v (readM s) → MapAt W v' (readM s) → Calls Tryd.prog 14 #[v, v'] W fun e w' => Out W (.bool true) e w') := fun W v v' h h' => same_any (readM s) v v' W h h' hl
  have HM := hid (fun W (h : Below w.heap.size w W) => hm.below h)
  obtain ⟨p, c, q, d, rfl, -, -⟩ := hm
  clear hl
  unfold OutRead at h10 h11
  unfold OutText at h12 h13
  unfold Out at h14 h15 h16
  generalize readE s = E at *
  generalize readM s = RM at *
  generalize textE m = TE at *
  generalize textS m = TS at *
  generalize formed m = F at *
  obtain ⟨a, b, ts, os⟩ := m
  simp only at hf HM ⊢
  generalize ts.length = M at *
  generalize os.length = N at *
  have h9 : Hid (∀ W, Calls Tryd.prog 9 #[.agg #[.int .i64 a, .int .i64 b, .slice p M c, .slice q N d]] W fun e w' => Out W (.bool true) e w') := fun W => by
    have := few_any a b p q M N c d W
    rwa [hf] at this
  have HX := hid hx
  clear hf hx
  go_enter Tryd.func3, Tryd.ntmps3
  go_upto_region 1 with (fail)
  obtain ⟨W, hW⟩ : ∃ W, W = w.alloc (.cells #[Value.int .i64 a, .int .i64 b, .slice p M c, .slice q N d] 24) := ⟨_, rfl⟩
  obtain ⟨B, hB⟩ : ∃ B, B = w.heap.size := ⟨_, rfl⟩
  rw [← hW, ← hB]
  obtain ⟨hk, hbe⟩ := map_box w a b _ _ W B hW hB
  have HBE := hid hbe
  have HK := hid hk
  clear hW hB hk hbe
  go_wp2_with fail
  refine Calls.mono (h8.out _ (Below.max (HBE.out W (Below.refl _ _)) HX.out)) ?_
  rintro e w1 ⟨rfl, hb1⟩
  have HB1 := hid hb1
  obtain ⟨b0, b1, b2, b3⟩ := HK.out w1 hb1
  clear hb1
  go_wp2_with fail
  refine Calls.mono (h9.out _) ?_
  rintro e w2 ⟨rfl, hb2⟩
  have HB2 := hid (HB1.out.trans (hb2.mono HB1.out.size))
  clear hb2 b0 b1 b2 b3 HB1 h8 h9
  -- the two readers
  go_wp2_with fail
  refine Calls.mono (h10.out w2 (Below.max (HBE.out w2 HB2.out) HX.out)) ?_
  rintro e w3 ⟨v3, rfl, hm3, hb3⟩
  have HB3 := hid (HB2.out.trans (hb3.mono HB2.out.size))
  have HM3 := hid hm3
  obtain ⟨p3, c3, q3, d3, rfl, -, -⟩ := hm3
  clear hb3 HB2 h10
  obtain ⟨W3, hW3⟩ : ∃ W3, W3 = w3.alloc (.cells #[Value.int .i64 RM.W, .int .i64 RM.H, .slice p3 RM.ts.length c3, .slice q3 RM.os.length d3] 24) := ⟨_, rfl⟩
  obtain ⟨B3, hB3⟩ : ∃ B3, B3 = w3.heap.size := ⟨_, rfl⟩
  obtain ⟨hk3, hbe3⟩ := map_box w3 RM.W RM.H (.slice p3 RM.ts.length c3) (.slice q3 RM.os.length d3) W3 B3 hW3 hB3
  have HBW3 := hid (HB3.out.trans ((hbe3 W3 (Below.refl _ _)).mono HB3.out.size))
  have HMW3 := hid (HM3.out.below (hbe3 W3 (Below.refl _ _)))
  have HK3 := hid hk3
  clear hk3 hbe3 HM3 HB3
  go_upto_region 4 with fail
  rw [← hW3, ← hB3]
  clear hW3 hB3
  go_wp2_with fail
  refine Calls.mono (h11.out W3) ?_
  rintro e w4 ⟨v4, rfl, hm4, hb4⟩
  have HB34 := hid hb4
  have HM4 := hid hm4
  obtain ⟨p4, c4, q4, d4, rfl, -, -⟩ := hm4
  clear hb4 h11
  obtain ⟨W4, hW4⟩ : ∃ W4, W4 = w4.alloc (.cells #[Value.int .i64 RM.W, .int .i64 RM.H, .slice p4 RM.ts.length c4, .slice q4 RM.os.length d4] 24) := ⟨_, rfl⟩
  obtain ⟨B4, hB4⟩ : ∃ B4, B4 = w4.heap.size := ⟨_, rfl⟩
  obtain ⟨hk4, hbe4⟩ := map_box w4 RM.W RM.H (.slice p4 RM.ts.length c4) (.slice q4 RM.os.length d4) W4 B4 hW4 hB4
  have HB3W := hid (HB34.out.trans ((hbe4 W4 (Below.refl _ _)).mono HB34.out.size))
  have HMW4 := hid (HM4.out.below (hbe4 W4 (Below.refl _ _)))
  have HK4 := hid hk4
  clear hk4 hbe4 HM4 HB34
  go_upto_region 5 with fail
  rw [← hW4, ← hB4]
  clear hW4 hB4
  have HBW4 := hid (HBW3.out.trans (HB3W.out.mono HBW3.out.size))
  obtain ⟨b0, b1, b2, b3⟩ := HK.out W4 HBW4.out
  go_wp2_with fail
  refine Calls.mono (h12.out W4 _ (HM.out _ (HBE.out _ HBW4.out))) ?_
  rintro e w5 ⟨rfl, hb5⟩
  have HB45 := hid hb5
  have HBW5 := hid (HBW4.out.trans (hb5.mono HBW4.out.size))
  clear hb5 b0 b1 b2 b3
  obtain ⟨b0, b1, b2, b3⟩ := HK.out w5 HBW5.out
  go_wp2_with fail
  refine Calls.mono (h13.out w5 _ (HM.out _ (HBE.out _ HBW5.out))) ?_
  rintro e w6 ⟨rfl, hb6⟩
  have HB46 := hid (HB45.out.trans (hb6.mono HB45.out.size))
  have HBW6 := hid (HBW5.out.trans (hb6.mono HBW5.out.size))
  clear hb6 b0 b1 b2 b3 HB45 HBW5 h12 h13
  have HB36 := hid (HB3W.out.trans (HB46.out.mono HB3W.out.size))
  have HNX : Hid (∀ x : Nx w6, (x.w.cell? ⟨B, 0, none⟩ = some (.int .i64 a) ∧ x.w.cell? ⟨B, 1, none⟩ = some (.int .i64 b) ∧ x.w.cell? ⟨B, 2, none⟩ = some (.slice p M c) ∧ x.w.cell? ⟨B, 3, none⟩ = some (.slice q N d)) ∧ (x.w.cell? ⟨B3, 0, none⟩ = some (.int .i64 RM.W) ∧ x.w.cell? ⟨B3, 1, none⟩ = some (.int .i64 RM.H) ∧ x.w.cell? ⟨B3, 2, none⟩ = some (.slice p3 RM.ts.length c3) ∧ x.w.cell? ⟨B3, 3, none⟩ = some (.slice q3 RM.os.length d3)) ∧ (x.w.cell? ⟨B4, 0, none⟩ = some (.int .i64 RM.W) ∧ x.w.cell? ⟨B4, 1, none⟩ = some (.int .i64 RM.H) ∧ x.w.cell? ⟨B4, 2, none⟩ = some (.slice p4 RM.ts.length c4) ∧ x.w.cell? ⟨B4, 3, none⟩ = some (.slice q4 RM.os.length d4))) := fun x => ⟨HK.out x.w (HBW6.out.trans (x.h.mono HBW6.out.size)), HK3.out x.w (HB36.out.trans (x.h.mono HB36.out.size)), HK4.out x.w (HB46.out.trans (x.h.mono HB46.out.size))⟩
  have HMX : Hid (∀ V, Below w6.heap.size w6 V → MapAt V (.agg #[.int .i64 a, .int .i64 b, .slice p M c, .slice q N d]) ⟨a, b, ts, os⟩) := fun V h => HM.out _ (HBE.out _ (HBW6.out.trans (h.mono HBW6.out.size)))
  have HR3 : Hid (∀ V, Below w6.heap.size w6 V → MapAt V (.agg #[.int .i64 RM.W, .int .i64 RM.H, .slice p3 RM.ts.length c3, .slice q3 RM.os.length d3]) RM) := fun V h => HMW3.out.below (HB36.out.trans (h.mono HB36.out.size))
  have HR4 : Hid (∀ V, Below w6.heap.size w6 V → MapAt V (.agg #[.int .i64 RM.W, .int .i64 RM.H, .slice p4 RM.ts.length c4, .slice q4 RM.os.length d4]) RM) := fun V h => HMW4.out.below (HB46.out.trans (h.mono HB46.out.size))
  clear HK3 HK4 HK HMW3 HMW4 HB36 HB46 HB3W HBW3 HBW4 HM HX
  go_upto_region 7 with fail
  have n0 := fun x => (HNX.out x).1.1
  have n1 := fun x => (HNX.out x).1.2.1
  have n2 := fun x => (HNX.out x).1.2.2.1
  have n3 := fun x => (HNX.out x).1.2.2.2
  have r0 := fun x => (HNX.out x).2.1.1
  have r1 := fun x => (HNX.out x).2.1.2.1
  have r2 := fun x => (HNX.out x).2.1.2.2.1
  have r3 := fun x => (HNX.out x).2.1.2.2.2
  have t0 := fun x => (HNX.out x).2.2.1
  have t1 := fun x => (HNX.out x).2.2.2.1
  have t2 := fun x => (HNX.out x).2.2.2.2.1
  have t3 := fun x => (HNX.out x).2.2.2.2.2
  have HB2 : Hid (Below w6.heap.size w6 w6.drew) := Below.drewN (Below.refl _ _) 1
  refine wp_region_calm (S := fun w' => ∃ x : Nx w6, w' = x.w) [(0, false), (1, false), (2, false), (3, false), (4, false), (5, false), (6, true), (7, false), (8, false), (9, false), (10, false), (11, false), (12, false), (13, false), (14, false), (15, false), (16, false), (17, false), (18, false), (19, false), (21, false), (20, true), (22, true), (23, false), (24, false), (25, false)] (by kernel_rfl) (by kernel_rfl) rfl (by kernel_rfl) ⟨⟨w6.drew, HB2.out⟩, rfl⟩ ?_
  obtain ⟨P0, hP0⟩ : ∃ P0, P0 = w6.drew := ⟨_, rfl⟩
  rw [← hP0] at HB2 ⊢
  clear hP0
  iterate 6 (refine plan_take rfl (fun K hK => ?_); go_simp; (first | (refine ⟨_, fun _ => rfl, hK _ ?_⟩) | (refine hK _ ?_)); clear hK K)
  refine plan_turn rfl (fun K hK => ?_)
  go_simp
  refine Calls.mono (h14.out _ _ _ (HR3.out _ HB2.out) (HR4.out _ HB2.out)) ?_
  rintro _ w7 ⟨rfl, hw⟩
  have HB7 : Hid (Below w6.heap.size w6 w7) := HB2.out.trans (hw.mono HB2.out.size)
  refine hK _ _ ⟨⟨w7, HB7.out⟩, rfl⟩ ?_
  clear hK K hw HB2
  iterate 14 (refine plan_take rfl (fun K hK => ?_); go_simp; (first | (refine ⟨_, fun _ => rfl, hK _ ?_⟩) | (refine hK _ ?_)); clear hK K)
  refine plan_turn rfl (fun K hK => ?_)
  go_simp
  refine Calls.mono (h15.out _ _ (HMX.out _ HB7.out)) ?_
  rintro _ w8 ⟨rfl, hw⟩
  have HB8 : Hid (Below w6.heap.size w6 w8) := HB7.out.trans (hw.mono HB7.out.size)
  refine hK _ _ ⟨⟨w8, HB8.out⟩, rfl⟩ ?_
  clear hK K hw HB7
  refine plan_turn rfl (fun K hK => ?_)
  go_simp
  refine Calls.mono (h16.out _ _ (HMX.out _ HB8.out)) ?_
  rintro _ w9 ⟨rfl, hw⟩
  have HB9 : Hid (Below w6.heap.size w6 w9) := HB8.out.trans (hw.mono HB8.out.size)
  refine hK _ _ ⟨⟨w9, HB9.out⟩, rfl⟩ ?_
  clear hK K hw HB8
  iterate 3 (refine plan_take rfl (fun K hK => ?_); go_simp; (first | (refine ⟨_, fun _ => rfl, hK _ ?_⟩) | (refine hK _ ?_)); clear hK K)
  refine plan_done ⟨rfl, ?_⟩
  have HBZ := hid (HBE.out _ (HBW6.out.trans (HB9.out.mono HBW6.out.size)))
  clear n0 n1 n2 n3 r0 r1 r2 r3 t0 t1 t2 t3
  go_wp2
  go_ret
  exact ⟨rfl, HBZ.out⟩
end Go.Proofs.YthinldcblbgdnaaDoor
