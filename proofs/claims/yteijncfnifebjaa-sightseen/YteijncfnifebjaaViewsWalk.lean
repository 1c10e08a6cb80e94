/- The law SightViews: its walk. -/
import Derived.Test.YteijncfnifebjaaAwake
namespace Go.Proofs.Yteijncfnifebjaa
open Go.RowKit
theorem fewM_of {m : Mp} {n : Nat} (h : fewM m n = true) : m.ts.length ≤ 1000 ∧ m.os.length ≤ 1000 ∧ n ≤ 40 := by
  unfold fewM at h
  simp only [Bool.and_eq_true, decide_eq_true_eq] at h
  exact ⟨h.1.1, h.1.2, h.2⟩
set_option maxRecDepth 20000 in
set_option maxHeartbeats 8000000 in
theorem views_walk (m : Mp) (v u : Value) (x y : Int) (es : List (Int × Int × Int)) (w : World) (hm : MapAt w v m) (hu : RowAt encY 3 w u es) : Calls Try.prog 3 #[v, u, C x y] w fun e w' => Out w (.bool true) e w' := by
  have h8 : Hid (∀ W, Calls Try.prog 8 #[] W fun e w' => Out W (.bool true) e w') := awake_any
  obtain ⟨N, hN⟩ : ∃ N, N = es.length := ⟨_, rfl⟩
  obtain ⟨pe, ce, rfl⟩ := hu.form
  rw [← hN] at hu ⊢
  have h9 : Hid (∀ W v, MapAt W v m → Calls Try.prog 9 #[v, .slice pe N ce] W fun e w' => Out W (.bool (fewM m N)) e w') := fun W v h => few_any m v pe N ce W h
  have HM := hid (fun W (h : Below w.heap.size w W) => hm.below h)
  have HU := hid (fun W (h : Below w.heap.size w W) => hu.below h)
  have h10 : Hid (fewM m N = true → ∀ W v, MapAt W v m → RowAt encY 3 W (.slice pe N ce) es → Calls Try.prog 10 #[v, .slice pe N ce] W fun e w' => OutB2 W (viewV m es) (viewE m) e w') := fun hf W v h h' => view_any m v _ es W h h' (by have := (fewM_of hf).2.2; omega)
  have h11 : Hid (fewM m N = true → ∀ W v u, MapAt W v m → RowAt encY 3 W u es → Calls Try.prog 11 #[v, u] W fun e w' => OutB2 W (viewV m es) (viewE m) e w') := fun hf W v u h h' => refView_any m v _ es W h h' (by have := (fewM_of hf).2.2; omega)
  have h12 : Hid (fewM m N = true → ∀ W, RowAt encY 3 W (.slice pe N ce) es → Calls Try.prog 12 #[.slice pe N ce] W fun e w' => OutY 58 W es e w') := fun hf W h' => plain_any _ es W h' (by have := (fewM_of hf).2.2; omega)
  have h14 : Hid (fewM m N = true → ∀ W v, MapAt W v m → RowAt encY 3 W (.slice pe N ce) es → Calls Try.prog 14 #[v, C x y, .slice pe N ce] W fun e w' => Out W (.bool (vis m es x y)) e w') := fun hf W v h h' => visible_any m v _ x y es W h h' (by have := (fewM_of hf).2.2; omega)
  have h15 : Hid (fewM m N = true → ∀ W v u, MapAt W v m → RowAt encY 3 W u es → Calls Try.prog 15 #[v, C x y, u] W fun e w' => Out W (.bool (vis m es x y)) e w') := fun hf W v u h h' => refVis15_any m v u x y es W h h' (by have := (fewM_of hf).2.2; omega)
  have hvl : (viewV m es).length ≤ 1000000 := by
    unfold viewV
    cases hf : formed m
    · simp
    · have := area_of hf
      show (viewL m es).length ≤ _
      unfold viewL
      rw [viewTo_length]; omega
  have h13 : Hid (∀ p q L c c' W, RowAt encB 1 W (.slice p L c) (viewV m es) → RowAt encB 1 W (.slice q L c') (viewV m es) → Calls Try.prog 13 #[.slice p L c, .slice q L c'] W fun e w' => Out W (.bool true) e w') := fun p q L c c' W h h' => by
    have e : L = (viewV m es).length := by obtain ⟨_, _, e, _⟩ := h; simp only [Value.slice.injEq] at e; exact e.2.1
    exact sameBools_any _ p q L c c' W h h' (by omega)
  unfold OutB2 at h10 h11
  unfold OutY at h12
  generalize viewV m es = vl at *
  generalize viewE m = E at *
  generalize vis m es x y = R at *
  generalize fewM m N = FW at *
  obtain ⟨p, c, q, d, rfl, -, -⟩ := hm
  obtain ⟨a, b, ts, os⟩ := m
  simp only at HM ⊢
  generalize ts.length = M at *
  generalize os.length = O at *
  clear hu hN hvl
  unfold Out at *
  unfold C at *
  go_enter Try.func3, Try.ntmps3
  go_upto_region 1 with (fail)
  obtain ⟨W, hW⟩ : ∃ W, W = (w.alloc (.cells #[Value.int .i64 a, .int .i64 b, .slice p M c, .slice q O d] 24)).alloc (.cells #[Value.int .i64 x, .int .i64 y] 27) := ⟨_, rfl⟩
  obtain ⟨B, hB⟩ : ∃ B, B = w.heap.size := ⟨_, rfl⟩
  rw [← hW, ← hB]
  obtain ⟨hk, hbe⟩ := map_cell_box w a b _ _ x y W B hW hB
  have HK := hid hk
  have HBE := hid hbe
  clear hW hB hk hbe
  go_wp2_with fail
  refine Calls.mono (h8.out W) ?_
  rintro e w1 ⟨rfl, hb1⟩
  have HB1 := hid hb1
  obtain ⟨b0, b1, b2, b3, b4, b5⟩ := HK.out w1 hb1
  clear hb1
  go_wp2_with fail
  refine Calls.mono (h9.out _ _ (HM.out _ (HBE.out w1 HB1.out))) ?_
  rintro e w2 ⟨rfl, hb2⟩
  have HB2 := hid (HB1.out.trans (hb2.mono HB1.out.size))
  obtain ⟨c0, c1, c2, c3, c4, c5⟩ := HK.out w2 HB2.out
  clear hb2 b0 b1 b2 b3 b4 b5 HB1
  rcases FW with _ | _
  · go_wp2_with fail
    refine Calls.mono (h8.out w2) ?_
    rintro e w3 ⟨rfl, hb3⟩
    have HB3 := hid (HB2.out.trans (hb3.mono HB2.out.size))
    clear hb3
    go_wp2
    go_ret
    exact ⟨rfl, HBE.out _ HB3.out⟩
  · go_wp2_with fail
    refine Calls.mono (h10.out trivial _ _ (HM.out _ (HBE.out _ HB2.out)) (HU.out _ (HBE.out _ HB2.out))) ?_
    rintro e w3 ⟨v1, rfl, ho3, hb3⟩
    have HB3 := hid (HB2.out.trans (hb3.mono HB2.out.size))
    have hrv := ho3.row layB
    obtain ⟨p1, k1, rfl⟩ := ho3.form
    have HRV := hid (fun W' (h : Below w3.heap.size w3 W') => hrv.below h)
    clear hb3 ho3 hrv c0 c1 c2 c3 c4 c5 HB2 h10
    obtain ⟨L, hL⟩ : ∃ L, L = vl.length := ⟨_, rfl⟩
    rw [← hL] at HRV ⊢
    have HL := hid (fun (_ : Nat) => hL)
    clear hL
    go_upto_region 4 with fail
    have n0 : ∀ z : Nx w3, z.w.cell? ⟨B, 0, none⟩ = some (.int .i64 a) := fun z => (HK.out z.w (HB3.out.trans (z.h.mono HB3.out.size))).1
    have n1 : ∀ z : Nx w3, z.w.cell? ⟨B, 1, none⟩ = some (.int .i64 b) := fun z => (HK.out z.w (HB3.out.trans (z.h.mono HB3.out.size))).2.1
    have n2 : ∀ z : Nx w3, z.w.cell? ⟨B, 2, none⟩ = some (.slice p M c) := fun z => (HK.out z.w (HB3.out.trans (z.h.mono HB3.out.size))).2.2.1
    have n3 : ∀ z : Nx w3, z.w.cell? ⟨B, 3, none⟩ = some (.slice q O d) := fun z => (HK.out z.w (HB3.out.trans (z.h.mono HB3.out.size))).2.2.2.1
    have n4 : ∀ z : Nx w3, z.w.cell? ⟨B + 1, 0, none⟩ = some (.int .i64 x) := fun z => (HK.out z.w (HB3.out.trans (z.h.mono HB3.out.size))).2.2.2.2.1
    have n5 : ∀ z : Nx w3, z.w.cell? ⟨B + 1, 1, none⟩ = some (.int .i64 y) := fun z => (HK.out z.w (HB3.out.trans (z.h.mono HB3.out.size))).2.2.2.2.2
    have HBW : Hid (∀ W', Below w3.heap.size w3 W' → Below w.heap.size w W') := fun W' h => HBE.out _ (HB3.out.trans (h.mono HB3.out.size))
    have HB4 : Hid (Below w3.heap.size w3 w3.drew) := Below.drewN (Below.refl _ _) 1
    refine wp_region_calm (S := fun w' => ∃ x : Nx w3, w' = x.w) [(0, false), (1, false), (2, true), (3, true), (4, false), (5, false), (6, false), (7, false), (8, false)] (by kernel_rfl) (by kernel_rfl) rfl (by kernel_rfl) ⟨⟨w3.drew, HB4.out⟩, rfl⟩ ?_
    repeat (refine plan_take rfl (fun K hK => ?_); go_simp; refine ⟨_, fun _ => rfl, hK _ ?_⟩; clear hK K)
    refine plan_turn rfl (fun K hK => ?_)
    go_simp
    refine Calls.mono (h12.out trivial _ (HU.out _ (HBW.out _ HB4.out))) ?_
    rintro _ w5 ⟨v5, rfl, ho5, hb5⟩
    have HB5 := hid (HB4.out.trans (hb5.mono HB4.out.size))
    refine hK _ _ ⟨⟨w5, HB5.out⟩, rfl⟩ ?_
    have HR5 := hid (ho5.row layY)
    clear hK K hb5 ho5 HB4
    refine plan_turn rfl (fun K hK => ?_)
    go_simp
    refine Calls.mono (h11.out trivial _ _ _ (HM.out _ (HBW.out _ HB5.out)) HR5.out) ?_
    rintro _ w6 ⟨v6, rfl, ho6, hb6⟩
    have HB6 := hid (HB5.out.trans (hb6.mono HB5.out.size))
    refine hK _ _ ⟨⟨w6, HB6.out⟩, rfl⟩ ?_
    have hr6 := ho6.row layB
    obtain ⟨p6, k6, rfl⟩ := ho6.form
    rw [← HL.out 0] at hr6 ⊢
    have HR6 := hid (fun W' (h : Below w6.heap.size w6 W') => hr6.below h)
    clear hK K hb6 ho6 HB5 HR5 hr6
    repeat (refine plan_take rfl (fun K hK => ?_); go_simp; refine ⟨_, fun _ => rfl, hK _ ?_⟩; clear hK K)
    refine plan_done ⟨rfl, ?_⟩
    have HBX : Hid (∀ W', Below w6.heap.size w6 W' → Below w3.heap.size w3 W') := fun W' h => HB6.out.trans (h.mono HB6.out.size)
    have HB7 : Hid (Below w6.heap.size w6 w6.drew) := Below.drewN (Below.refl _ _) 1
    clear n0 n1 n2 n3 n4 n5
    have n0 : ∀ z : Nx w6, z.w.cell? ⟨B, 0, none⟩ = some (.int .i64 a) := fun z => (HK.out z.w (HB3.out.trans ((HBX.out _ z.h).mono HB3.out.size))).1
    have n1 : ∀ z : Nx w6, z.w.cell? ⟨B, 1, none⟩ = some (.int .i64 b) := fun z => (HK.out z.w (HB3.out.trans ((HBX.out _ z.h).mono HB3.out.size))).2.1
    have n2 : ∀ z : Nx w6, z.w.cell? ⟨B, 2, none⟩ = some (.slice p M c) := fun z => (HK.out z.w (HB3.out.trans ((HBX.out _ z.h).mono HB3.out.size))).2.2.1
    have n3 : ∀ z : Nx w6, z.w.cell? ⟨B, 3, none⟩ = some (.slice q O d) := fun z => (HK.out z.w (HB3.out.trans ((HBX.out _ z.h).mono HB3.out.size))).2.2.2.1
    have n4 : ∀ z : Nx w6, z.w.cell? ⟨B + 1, 0, none⟩ = some (.int .i64 x) := fun z => (HK.out z.w (HB3.out.trans ((HBX.out _ z.h).mono HB3.out.size))).2.2.2.2.1
    have n5 : ∀ z : Nx w6, z.w.cell? ⟨B + 1, 1, none⟩ = some (.int .i64 y) := fun z => (HK.out z.w (HB3.out.trans ((HBX.out _ z.h).mono HB3.out.size))).2.2.2.2.2
    clear h11
    go_upto_region 5 with fail
    refine wp_region_calm (S := fun w' => ∃ x : Nx w6, w' = x.w) [(0, false), (1, false), (2, false), (3, false), (4, false), (5, false), (6, true), (7, false), (8, false), (9, false), (10, false), (11, false), (13, false), (14, false), (15, false), (12, true), (16, true), (17, true), (18, false), (19, false), (20, false)] (by kernel_rfl) (by kernel_rfl) rfl (by kernel_rfl) ⟨⟨w6.drew, HB7.out⟩, rfl⟩ ?_
    repeat (refine plan_take rfl (fun K hK => ?_); go_simp; (first | (refine ⟨_, fun _ => rfl, hK _ ?_⟩) | (refine hK _ ?_)); clear hK K)
    refine plan_turn rfl (fun K hK => ?_)
    go_simp
    refine Calls.mono (h13.out _ _ _ _ _ _ (HRV.out _ (HBX.out _ HB7.out)) (HR6.out _ HB7.out)) ?_
    rintro _ w8 ⟨rfl, hb8⟩
    have HB8 := hid (HB7.out.trans (hb8.mono HB7.out.size))
    refine hK _ _ ⟨⟨w8, HB8.out⟩, rfl⟩ ?_
    clear hK K hb8 HB7
    repeat (refine plan_take rfl (fun K hK => ?_); go_simp; (first | (refine ⟨_, fun _ => rfl, hK _ ?_⟩) | (refine hK _ ?_)); clear hK K)
    refine plan_turn rfl (fun K hK => ?_)
    go_simp
    refine Calls.mono (h14.out trivial _ _ (HM.out _ (HBW.out _ (HBX.out _ HB8.out))) (HU.out _ (HBW.out _ (HBX.out _ HB8.out)))) ?_
    rintro _ w9 ⟨rfl, hb9⟩
    have HB9 := hid (HB8.out.trans (hb9.mono HB8.out.size))
    refine hK _ _ ⟨⟨w9, HB9.out⟩, rfl⟩ ?_
    clear hK K hb9 HB8
    refine plan_turn rfl (fun K hK => ?_)
    go_simp
    refine Calls.mono (h12.out trivial _ (HU.out _ (HBW.out _ (HBX.out _ HB9.out)))) ?_
    rintro _ w10 ⟨v10, rfl, ho10, hb10⟩
    have HB10 := hid (HB9.out.trans (hb10.mono HB9.out.size))
    refine hK _ _ ⟨⟨w10, HB10.out⟩, rfl⟩ ?_
    have HR10 := hid (ho10.row layY)
    clear hK K hb10 HB9 ho10
    refine plan_turn rfl (fun K hK => ?_)
    go_simp
    refine Calls.mono (h15.out trivial _ _ _ (HM.out _ (HBW.out _ (HBX.out _ HB10.out))) HR10.out) ?_
    rintro _ w11 ⟨rfl, hb11⟩
    have HB11 := hid (HB10.out.trans (hb11.mono HB10.out.size))
    refine hK _ _ ⟨⟨w11, HB11.out⟩, rfl⟩ ?_
    clear hK K hb11 HB10
    clear n0 n1 n2 n3 n4 n5
    rcases R with _ | _
    all_goals
      repeat (refine plan_take rfl (fun K hK => ?_); go_simp; (first | (refine ⟨_, fun _ => rfl, hK _ ?_⟩) | (refine hK _ ?_)); clear hK K)
      refine plan_done ⟨rfl, ?_⟩
      go_wp2
      go_ret
      exact ⟨rfl, HBW.out _ (HBX.out _ HB11.out)⟩
end Go.Proofs.Yteijncfnifebjaa
