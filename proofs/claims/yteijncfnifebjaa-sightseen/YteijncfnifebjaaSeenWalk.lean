/- The law SightSeen: its walk. -/
import Derived.Test.YteijncfnifebjaaRefSeen
import Derived.Test.YteijncfnifebjaaOwnWalk
namespace Go.Proofs.Yteijncfnifebjaa
open Go.RowKit
theorem map_views_box (w : World) (a b : Int) (s t x y : Value) (W : World) (B : Nat) (hW : W = (w.alloc (.cells #[Value.int .i64 a, .int .i64 b, s, t] 24)).alloc (.cells #[x, y] 42)) (hB : B = w.heap.size) :
    (∀ w', Below W.heap.size W w' → w'.cell? ⟨B, 0, none⟩ = some (.int .i64 a) ∧ w'.cell? ⟨B, 1, none⟩ = some (.int .i64 b) ∧ w'.cell? ⟨B, 2, none⟩ = some s ∧ w'.cell? ⟨B, 3, none⟩ = some t ∧ w'.cell? ⟨B + 1, 0, none⟩ = some x ∧ w'.cell? ⟨B + 1, 1, none⟩ = some y) ∧ (∀ w', Below W.heap.size W w' → Below w.heap.size w w') := by
  have hsz : W.heap.size = B + 2 := by rw [hW, hB]; simp
  have hbe : Below w.heap.size w W := by rw [hW]; exact ((Below.refl _ _).alloc (Nat.le_refl _) _).alloc (by simp) _
  have b1 : Blk W B [Value.int .i64 a, .int .i64 b, s, t] 24 := by rw [hW, hB]; exact (Blk.new _ _ _).alloc _
  have b2 : Blk W (B + 1) [x, y] 42 := by rw [hW]; exact Blk.new' _ _ _ _ (by simp [hB])
  refine ⟨fun w' h => ?_, fun w' h => hbe.trans (h.mono (by omega))⟩
  have c1 := b1.below h (by omega)
  have c2 := b2.below h (by omega)
  exact ⟨c1.cell 0, c1.cell 1, c1.cell 2, c1.cell 3, c2.cell 0, c2.cell 1⟩
theorem mergeV_length (xs ys : List Bool) : (mergeV xs ys).length ≤ xs.length := by
  unfold mergeV
  split
  · rename_i h; rw [orL_length h]; exact Nat.le_refl _
  · simp
theorem seenL_length (m : Mp) (l : List (List Int)) (vw : List Bool) : (seenL m l vw).length ≤ l.length := List.length_filter_le _ _
set_option maxRecDepth 20000 in
set_option maxHeartbeats 8000000 in
theorem seen_walk (m : Mp) (v u s1 s2 : Value) (l : List (List Int)) (xs ys : List Bool) (w : World) (hm : MapAt w v m) (hu : RowAt encN 11 w u l) (hx : RowAt encB 1 w s1 xs) (hy : RowAt encB 1 w s2 ys) : Calls Try.prog 4 #[v, u, .agg #[s1, s2]] w fun e w' => Out w (.bool true) e w' := by
  have h8 : Hid (∀ W, Calls Try.prog 8 #[] W fun e w' => Out W (.bool true) e w') := awake_any
  have h9 : Hid (∀ W v, MapAt W v m → Calls Try.prog 9 #[v, .slice none 0 0] W fun e w' => Out W (.bool (fewM m 0)) e w') := fun W v h => few_any m v none 0 0 W h
  obtain ⟨N, hN⟩ : ∃ N, N = l.length := ⟨_, rfl⟩
  obtain ⟨T1, hT1⟩ : ∃ T, T = xs.length := ⟨_, rfl⟩
  obtain ⟨T2, hT2⟩ : ∃ T, T = ys.length := ⟨_, rfl⟩
  obtain ⟨pe, ce, rfl⟩ := hu.form
  obtain ⟨p1, c1, rfl⟩ := hx.form
  obtain ⟨p2, c2, rfl⟩ := hy.form
  have HM := hid (fun W (h : Below w.heap.size w W) => hm.below h)
  have HU := hid (fun W (h : Below w.heap.size w W) => hu.below h)
  have HX := hid (fun W (h : Below w.heap.size w W) => hx.below h)
  have HY := hid (fun W (h : Below w.heap.size w W) => hy.below h)
  rw [← hN] at HU ⊢
  rw [← hT1] at HX ⊢
  rw [← hT2] at HY ⊢
  have h16 : Hid (T1 ≤ 1000 → T2 ≤ 1000 → ∀ W u v, RowAt encB 1 W u xs → RowAt encB 1 W v ys → Calls Try.prog 16 #[u, v] W fun e w' => OutB2 W (mergeV xs ys) (mergeE xs ys) e w') := fun k1 k2 W u v h h' => merge_any u v xs ys W h h' (by omega) (by omega)
  have h17 : Hid (T1 ≤ 1000 → T2 ≤ 1000 → ∀ W u v, RowAt encB 1 W u xs → RowAt encB 1 W v ys → Calls Try.prog 17 #[u, v] W fun e w' => OutB2 W (mergeV xs ys) (mergeE xs ys) e w') := fun k1 k2 W u v h h' => refMerge_any u v xs ys W h h' (by omega) (by omega)
  have h13 : Hid (T1 ≤ 1000 → ∀ p q L c c' W, RowAt encB 1 W (.slice p L c) (mergeV xs ys) → RowAt encB 1 W (.slice q L c') (mergeV xs ys) → Calls Try.prog 13 #[.slice p L c, .slice q L c'] W fun e w' => Out W (.bool true) e w') := fun k1 p q L c c' W h h' => by
    have e : L = (mergeV xs ys).length := by obtain ⟨_, _, e, _⟩ := h; simp only [Value.slice.injEq] at e; exact e.2.1
    exact sameBools_any _ p q L c c' W h h' (by have := mergeV_length xs ys; omega)
  have h19 : Hid (N ≤ 500 → T1 ≤ 1000 → ∀ W v u s, MapAt W v m → RowAt encN 11 W u l → RowAt encB 1 W s xs → Calls Try.prog 19 #[v, u, s] W fun e w' => OutN W (seenL m l xs) e w') := fun k1 k2 W v u s h h' h'' => seen_any m v u s l xs W h h' h'' (by omega) (by omega)
  have h20 : Hid (N ≤ 500 → T1 ≤ 1000 → ∀ W v u s, MapAt W v m → RowAt encN 11 W u l → RowAt encB 1 W s xs → Calls Try.prog 20 #[v, u, s] W fun e w' => OutN W (seenL m l xs) e w') := fun k1 k2 W v u s h h' h'' => refSeen_any m v u s l xs W h h' h'' (by omega) (by omega)
  have h18 : Hid (N ≤ 500 → ∀ p q L c c' W, RowAt encN 11 W (.slice p L c) (seenL m l xs) → RowAt encN 11 W (.slice q L c') (seenL m l xs) → Calls Try.prog 18 #[.slice p L c, .slice q L c'] W fun e w' => Out W (.bool true) e w') := fun k1 p q L c c' W h h' => by
    have e : L = (seenL m l xs).length := by obtain ⟨_, _, e, _⟩ := h; simp only [Value.slice.injEq] at e; exact e.2.1
    exact sameN_any _ p q L c c' W h h' (by have := seenL_length m l xs; omega)
  unfold OutB2 at h16 h17
  unfold OutN at h19 h20
  generalize mergeV xs ys = mv at *
  generalize mergeE xs ys = E at *
  generalize seenL m l xs = sl at *
  generalize fewM m 0 = FW at *
  obtain ⟨p, c, q, d, rfl, -, -⟩ := hm
  obtain ⟨a, b, ts, os⟩ := m
  simp only at HM ⊢
  generalize ts.length = M at *
  generalize os.length = O at *
  clear hu hx hy hN hT1 hT2
  unfold Out at *
  go_enter Try.func4, Try.ntmps4
  go_upto_region 1 with (fail)
  obtain ⟨W, hW⟩ : ∃ W, W = (w.alloc (.cells #[Value.int .i64 a, .int .i64 b, .slice p M c, .slice q O d] 24)).alloc (.cells #[Value.slice p1 T1 c1, .slice p2 T2 c2] 42) := ⟨_, rfl⟩
  obtain ⟨B, hB⟩ : ∃ B, B = w.heap.size := ⟨_, rfl⟩
  rw [← hW, ← hB]
  obtain ⟨hk, hbe⟩ := map_views_box w a b _ _ _ _ W B hW hB
  have HK := hid hk
  have HBE := hid hbe
  clear hW hB hk hbe
  go_wp2_with fail
  refine Calls.mono (h8.out W) ?_
  rintro e w1 ⟨rfl, hb1⟩
  have HB1 := hid hb1
  obtain ⟨b0, b1, b2, b3, b4, b5⟩ := HK.out w1 hb1
  clear hb1
  go_wp2_with fail
  refine Calls.mono (h9.out _ _ (HM.out _ (HBE.out w1 HB1.out))) ?_
  rintro e w2 ⟨rfl, hb2⟩
  have HB2 := hid (HB1.out.trans (hb2.mono HB1.out.size))
  obtain ⟨d0, d1, d2, d3, d4, d5⟩ := HK.out w2 HB2.out
  clear hb2 b0 b1 b2 b3 b4 b5 HB1
  have hskip : FW = false ∨ (FW = true ∧ 500 < (N : Int)) ∨ (FW = true ∧ (N : Int) ≤ 500 ∧ 1000 < (T1 : Int)) ∨ (FW = true ∧ (N : Int) ≤ 500 ∧ (T1 : Int) ≤ 1000 ∧ 1000 < (T2 : Int)) ∨ (FW = true ∧ (N : Int) ≤ 500 ∧ (T1 : Int) ≤ 1000 ∧ (T2 : Int) ≤ 1000) := by
    cases FW
    · exact Or.inl rfl
    · refine Or.inr ?_
      simp only [true_and]
      omega
  rcases hskip with hfw | ⟨hfw, hn⟩ | ⟨hfw, hn, ht1⟩ | ⟨hfw, hn, ht1, ht2⟩ | ⟨hfw, hn, ht1, ht2⟩
  case' inr.inr.inl => have hn' : (500 < (N : Int)) = False := by simp; omega
  case' inr.inr.inr.inl =>
    have hn' : (500 < (N : Int)) = False := by simp; omega
    have ht1' : (1000 < (T1 : Int)) = False := by simp; omega
  case' inr.inr.inr.inr =>
    have hn' : (500 < (N : Int)) = False := by simp; omega
    have ht1' : (1000 < (T1 : Int)) = False := by simp; omega
    have ht2' : (1000 < (T2 : Int)) = False := by simp; omega
  all_goals subst hfw
  case inr.inr.inr.inr =>
    have kn : N ≤ 500 := by omega
    have k1 : T1 ≤ 1000 := by omega
    have k2 : T2 ≤ 1000 := by omega
    clear h8 h9
    go_wp2_with fail
    refine Calls.mono (h16.out k1 k2 _ _ _ (HX.out _ (HBE.out _ HB2.out)) (HY.out _ (HBE.out _ HB2.out))) ?_
    rintro e w3 ⟨v3, rfl, ho3, hb3⟩
    have HB3 := hid (HB2.out.trans (hb3.mono HB2.out.size))
    have hr3 := ho3.row layB
    obtain ⟨p3, c3, rfl⟩ := ho3.form
    have HR3 := hid (fun W' (h : Below w3.heap.size w3 W') => hr3.below h)
    obtain ⟨L, hL⟩ : ∃ L, L = mv.length := ⟨_, rfl⟩
    rw [← hL] at HR3 ⊢
    have HL := hid (fun (_ : Nat) => hL)
    clear hb3 ho3 hr3 hL d0 d1 d2 d3 d4 d5 HB2 h16
    obtain ⟨d0, d1, d2, d3, d4, d5⟩ := HK.out w3 HB3.out
    go_wp2_with fail
    refine Calls.mono (h17.out k1 k2 _ _ _ (HX.out _ (HBE.out _ HB3.out)) (HY.out _ (HBE.out _ HB3.out))) ?_
    rintro e w4 ⟨v4, rfl, ho4, hb4⟩
    have HB34 : Hid (Below w3.heap.size w3 w4) := hb4
    have hr4 := ho4.row layB
    obtain ⟨p4, c4, rfl⟩ := ho4.form
    have HR4 := hid (fun W' (h : Below w4.heap.size w4 W') => hr4.below h)
    rw [← HL.out 0] at HR4 ⊢
    clear hb4 ho4 hr4 d0 d1 d2 d3 d4 d5 h17
    have HB4 : Hid (Below W.heap.size W w4) := HB3.out.trans (HB34.out.mono HB3.out.size)
    have HBW : Hid (∀ W', Below w4.heap.size w4 W' → Below w.heap.size w W') := fun W' h => HBE.out _ (HB4.out.trans (h.mono HB4.out.size))
    have n0 : ∀ z : Nx w4, z.w.cell? ⟨B, 0, none⟩ = some (.int .i64 a) := fun z => (HK.out z.w (HB4.out.trans (z.h.mono HB4.out.size))).1
    have n1 : ∀ z : Nx w4, z.w.cell? ⟨B, 1, none⟩ = some (.int .i64 b) := fun z => (HK.out z.w (HB4.out.trans (z.h.mono HB4.out.size))).2.1
    have n2 : ∀ z : Nx w4, z.w.cell? ⟨B, 2, none⟩ = some (.slice p M c) := fun z => (HK.out z.w (HB4.out.trans (z.h.mono HB4.out.size))).2.2.1
    have n3 : ∀ z : Nx w4, z.w.cell? ⟨B, 3, none⟩ = some (.slice q O d) := fun z => (HK.out z.w (HB4.out.trans (z.h.mono HB4.out.size))).2.2.2.1
    have n4 : ∀ z : Nx w4, z.w.cell? ⟨B + 1, 0, none⟩ = some (.slice p1 T1 c1) := fun z => (HK.out z.w (HB4.out.trans (z.h.mono HB4.out.size))).2.2.2.2.1
    have n5 : ∀ z : Nx w4, z.w.cell? ⟨B + 1, 1, none⟩ = some (.slice p2 T2 c2) := fun z => (HK.out z.w (HB4.out.trans (z.h.mono HB4.out.size))).2.2.2.2.2
    have HB5 : Hid (Below w4.heap.size w4 w4.drew) := Below.drewN (Below.refl _ _) 1
    go_upto_region 5 with fail
    refine wp_region_calm (S := fun w' => ∃ x : Nx w4, w' = x.w) [(0, false), (1, false), (2, false), (3, false), (4, false), (5, false), (6, true), (7, false), (8, false), (9, false), (10, false), (11, false), (12, false), (14, false), (15, false), (16, false), (17, false), (13, true), (18, true), (19, true), (20, false), (21, false)] (by kernel_rfl) (by kernel_rfl) rfl (by kernel_rfl) ⟨⟨w4.drew, HB5.out⟩, rfl⟩ ?_
    repeat (refine plan_take rfl (fun K hK => ?_); go_simp; (first | (refine ⟨_, fun _ => rfl, hK _ ?_⟩) | (refine hK _ ?_)); clear hK K)
    refine plan_turn rfl (fun K hK => ?_)
    go_simp
    refine Calls.mono (h13.out k1 _ _ _ _ _ _ (HR3.out _ (HB34.out.trans (HB5.out.mono HB34.out.size))) (HR4.out _ HB5.out)) ?_
    rintro _ w8 ⟨rfl, hb8⟩
    have HB8 := hid (HB5.out.trans (hb8.mono HB5.out.size))
    refine hK _ _ ⟨⟨w8, HB8.out⟩, rfl⟩ ?_
    clear hK K hb8 HB5
    repeat (refine plan_take rfl (fun K hK => ?_); go_simp; (first | (refine ⟨_, fun _ => rfl, hK _ ?_⟩) | (refine hK _ ?_)); clear hK K)
    refine plan_turn rfl (fun K hK => ?_)
    go_simp
    refine Calls.mono (h19.out kn k1 _ _ _ _ (HM.out _ (HBW.out _ HB8.out)) (HU.out _ (HBW.out _ HB8.out)) (HX.out _ (HBW.out _ HB8.out))) ?_
    rintro _ w9 ⟨v9, rfl, ho9, hb9⟩
    have HB9 := hid (HB8.out.trans (hb9.mono HB8.out.size))
    refine hK _ _ ⟨⟨w9, HB9.out⟩, rfl⟩ ?_
    have hr9 := ho9.row layN
    obtain ⟨p9, c9, rfl⟩ := ho9.form
    have HR9 := hid (fun W' (h : Below w9.heap.size w9 W') => hr9.below h)
    clear hK K hb9 HB8 ho9 hr9
    refine plan_turn rfl (fun K hK => ?_)
    go_simp
    refine Calls.mono (h20.out kn k1 _ _ _ _ (HM.out _ (HBW.out _ HB9.out)) (HU.out _ (HBW.out _ HB9.out)) (HX.out _ (HBW.out _ HB9.out))) ?_
    rintro _ w10 ⟨v10, rfl, ho10, hb10⟩
    have HB10 := hid (HB9.out.trans (hb10.mono HB9.out.size))
    refine hK _ _ ⟨⟨w10, HB10.out⟩, rfl⟩ ?_
    have hr9 := HR9.out _ hb10
    have hr10 := ho10.row layN
    obtain ⟨p10, c10, rfl⟩ := ho10.form
    clear hK K hb10 HB9 ho10
    refine plan_turn rfl (fun K hK => ?_)
    go_simp
    refine Calls.mono (h18.out kn _ _ _ _ _ _ hr9 hr10) ?_
    rintro _ w11 ⟨rfl, hb11⟩
    have HB11 := hid (HB10.out.trans (hb11.mono HB10.out.size))
    refine hK _ _ ⟨⟨w11, HB11.out⟩, rfl⟩ ?_
    clear hK K hb11 HB10 hr9 hr10
    clear n0 n1 n2 n3 n4 n5
    repeat (refine plan_take rfl (fun K hK => ?_); go_simp; (first | (refine ⟨_, fun _ => rfl, hK _ ?_⟩) | (refine hK _ ?_)); clear hK K)
    refine plan_done ⟨rfl, ?_⟩
    go_wp2
    go_ret
    exact ⟨rfl, HBW.out _ HB11.out⟩
  all_goals
    go_wp2_with fail
    refine Calls.mono (h8.out w2) ?_
    rintro e w3 ⟨rfl, hb3⟩
    have HB3 := hid (HB2.out.trans (hb3.mono HB2.out.size))
    clear hb3
    go_wp2
    go_ret
    exact ⟨rfl, HBE.out _ HB3.out⟩
end Go.Proofs.Yteijncfnifebjaa
