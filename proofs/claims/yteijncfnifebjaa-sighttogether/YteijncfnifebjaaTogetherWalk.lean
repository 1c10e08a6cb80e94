/- The law SightTogether: its walk. -/
import Derived.Test.YteijncfnifebjaaOwnWalk
import Derived.Test.YteijncfnifebjaaMerge
namespace Go.Proofs.Yteijncfnifebjaa
open Go.RowKit
theorem orL_viewTo (m : Mp) (as1 bs : List (Int × Int × Int)) (n : Nat) : orL (viewTo m as1 n) (viewTo m bs n) = viewTo m (as1 ++ bs) n := by
  unfold orL viewTo
  apply List.ext_getElem
  · simp
  · intro i h1 h2
    rw [List.getElem_zipWith, List.getElem_map, List.getElem_map, List.getElem_map]
    unfold vis
    rw [List.any_append]
theorem merge_view (m : Mp) (as1 bs : List (Int × Int × Int)) : mergeV (viewV m as1) (viewV m bs) = viewV m (as1 ++ bs) ∧ mergeE (viewV m as1) (viewV m bs) = 0 := by
  have hl : (viewV m as1).length = (viewV m bs).length := by
    unfold viewV viewL
    split
    · rw [viewTo_length, viewTo_length]
    · rfl
  unfold mergeV mergeE
  rw [if_pos hl, if_pos hl]
  refine ⟨?_, rfl⟩
  unfold viewV viewL
  split
  · exact orL_viewTo m as1 bs _
  · rfl
theorem viewV_len (m : Mp) (es : List (Int × Int × Int)) (h : formed m = true) : ((viewV m es).length : Int) = m.W * m.H := by
  have := area_of h
  unfold viewV viewL
  rw [if_pos h, viewTo_length]
  omega
set_option maxRecDepth 20000 in
set_option maxHeartbeats 8000000 in
theorem together_walk (m : Mp) (v u : Value) (es : List (Int × Int × Int)) (w : World) (hm : MapAt w v m) (hu : RowAt encY 3 w u es) : Calls Try.prog 5 #[v, u] w fun e w' => Out w (.bool true) e w' := by
  have h8 : Hid (∀ W, Calls Try.prog 8 #[] W fun e w' => Out W (.bool true) e w') := awake_any
  obtain ⟨N, hN⟩ : ∃ N, N = es.length := ⟨_, rfl⟩
  obtain ⟨pe, ce, rfl⟩ := hu.form
  rw [← hN] at hu ⊢
  have h9 : Hid (∀ W v, MapAt W v m → Calls Try.prog 9 #[v, .slice pe N ce] W fun e w' => Out W (.bool (fewM m N)) e w') := fun W v h => few_any m v pe N ce W h
  have HM := hid (fun W (h : Below w.heap.size w W) => hm.below h)
  have HU := hid (fun W (h : Below w.heap.size w W) => hu.below h)
  have HF := hid (@fewM_of m N)
  have h10 : Hid (∀ as1 W v u, MapAt W v m → RowAt encY 3 W u as1 → as1.length ≤ 10000 → Calls Try.prog 10 #[v, u] W fun e w' => OutB2 W (viewV m as1) (viewE m) e w') := fun as1 W v u h h' hl => view_any m v _ as1 W h h' hl
  have h16 : Hid (∀ as1 bs W u v, RowAt encB 1 W u (viewV m as1) → RowAt encB 1 W v (viewV m bs) → Calls Try.prog 16 #[u, v] W fun e w' => OutB2 W (viewV m (as1 ++ bs)) 0 e w') := fun as1 bs W u v h h' => by
    have := merge_any u v (viewV m as1) (viewV m bs) W h h' (by have := viewV_length m as1; omega) (by have := viewV_length m bs; omega)
    rwa [(merge_view m as1 bs).1, (merge_view m as1 bs).2] at this
  have h13 : Hid (∀ p q L c c' W, RowAt encB 1 W (.slice p L c) (viewV m es) → RowAt encB 1 W (.slice q L c') (viewV m es) → Calls Try.prog 13 #[.slice p L c, .slice q L c'] W fun e w' => Out W (.bool true) e w') := fun p q L c c' W h h' => by
    have e : L = (viewV m es).length := by obtain ⟨_, _, e, _⟩ := h; simp only [Value.slice.injEq] at e; exact e.2.1
    exact sameBools_any _ p q L c c' W h h' (by have := viewV_length m es; omega)
  have HLN : Hid (∀ as1, (viewV m as1).length = (viewV m es).length) := fun as1 => by
    unfold viewV viewL
    split
    · rw [viewTo_length, viewTo_length]
    · rfl
  have HLE := hid (viewV_len m es)
  have HL0 : Hid (formed m = false → (viewV m es).length = 0 ∧ viewE m = 4) := fun h => by unfold viewV viewE; rw [h]; exact ⟨rfl, rfl⟩
  have HE0 : Hid (formed m = true → viewE m = 0) := fun h => by unfold viewE; rw [h]; rfl
  have HAR := hid (@area_of m)
  have HTK : Hid (∀ i (hi : i < es.length), es.take (i + 1) = es.take i ++ [es[i]]) := fun i hi => List.take_succ_eq_append_getElem hi
  have HNN := hid (fun (_ : Nat) => hN)
  unfold OutB2 at h10 h16
  generalize viewV m = vv at *
  generalize viewE m = E at *
  generalize formed m = FM at *
  generalize fewM m N = FW at *
  obtain ⟨p, c, q, d, rfl, -, -⟩ := hm
  obtain ⟨a, b, ts, os⟩ := m
  simp only at HM HLE HAR HF ⊢
  generalize ts.length = M at *
  generalize os.length = O at *
  clear hu hN
  unfold Out at *
  go_enter Try.func5, Try.ntmps5
  go_upto_region 1 with (fail)
  obtain ⟨W, hW⟩ : ∃ W, W = w.alloc (.cells #[Value.int .i64 a, .int .i64 b, .slice p M c, .slice q O d] 24) := ⟨_, rfl⟩
  obtain ⟨B, hB⟩ : ∃ B, B = w.heap.size := ⟨_, rfl⟩
  rw [← hW, ← hB]
  obtain ⟨hk, hbe⟩ := map_box w a b _ _ W B hW hB
  have HK := hid hk
  have HBE := hid hbe
  clear hW hB hk hbe
  go_wp2_with fail
  refine Calls.mono (h8.out W) ?_
  rintro e w1 ⟨rfl, hb1⟩
  have HB1 := hid hb1
  obtain ⟨b0, b1, b2, b3⟩ := HK.out w1 hb1
  clear hb1
  go_wp2_with fail
  refine Calls.mono (h9.out _ _ (HM.out _ (HBE.out w1 HB1.out))) ?_
  rintro e w2 ⟨rfl, hb2⟩
  have HB2 := hid (HB1.out.trans (hb2.mono HB1.out.size))
  obtain ⟨c0, c1, c2, c3⟩ := HK.out w2 HB2.out
  clear hb2 b0 b1 b2 b3 HB1
  rcases FW with _ | _
  · go_wp2_with fail
    refine Calls.mono (h8.out w2) ?_
    rintro e w3 ⟨rfl, hb3⟩
    have HB3 := hid (HB2.out.trans (hb3.mono HB2.out.size))
    clear hb3
    go_wp2
    go_ret
    exact ⟨rfl, HBE.out _ HB3.out⟩
  · have hN40 : N ≤ 40 := (HF.out (by first | rfl | trivial)).2.2
    clear h8 h9 HF
    go_wp2_with fail
    refine Calls.mono (h10.out es _ _ _ (HM.out _ (HBE.out _ HB2.out)) (HU.out _ (HBE.out _ HB2.out)) (by have := HNN.out 0; omega)) ?_
    rintro e w3 ⟨v1, rfl, ho3, hb3⟩
    have HB3 := hid (HB2.out.trans (hb3.mono HB2.out.size))
    have hrv := ho3.row layB
    obtain ⟨p1, k1, rfl⟩ := ho3.form
    have HRV := hid (fun W' (h : Below w3.heap.size w3 W') => hrv.below h)
    clear hb3 ho3 hrv c0 c1 c2 c3 HB2
    obtain ⟨L, hL⟩ : ∃ L, L = (vv es).length := ⟨_, rfl⟩
    rw [← hL] at HRV HLE HL0 ⊢
    have HLL : Hid (∀ as1, (vv as1).length = L) := by rw [hL]; exact HLN
    clear hL HLN
    obtain ⟨c0, c1, c2, c3⟩ := HK.out w3 HB3.out
    go_wp2_with fail
    refine Calls.mono (h10.out [] _ _ _ (HM.out _ (HBE.out _ HB3.out)) (RowAt.nil _ _ _) (by simp)) ?_
    rintro e w4 ⟨v2, rfl, ho4, hb4⟩
    have HB34 : Hid (Below w3.heap.size w3 w4) := hb4
    have hrs := ho4.row layB
    obtain ⟨p2, k2, rfl⟩ := ho4.form
    rw [HLL.out] at hrs ⊢
    have HRS := hid hrs
    clear hb4 ho4 hrs c0 c1 c2 c3
    have HBW : Hid (∀ W', Below w3.heap.size w3 W' → Below W.heap.size W W') := fun W' h => HB3.out.trans (h.mono HB3.out.size)
    rcases FM with _ | _
    · obtain ⟨hl0, he⟩ := HL0.out rfl
      subst hl0 he
      go_wp2
      go_ret
      exact ⟨by simp, HBE.out _ (HBW.out _ HB34.out)⟩
    · have he : E = 0 := HE0.out rfl
      subst he
      obtain ⟨f1, f2, f3, f4, f5, f6⟩ := HAR.out rfl
      have hle : (L : Int) = a * b := HLE.out rfl
      have HMUL := hid (fun (_ : Nat) => hle)
      clear HLE HAR HL0 HE0 hle f1 f2 f3 f4
      go_wp2_with fail
      go_loopw [9, 7] (fun iv sv wr => ∃ i : Nat, i ≤ N ∧ iv = .int .i64 (i : Int) ∧ Hid (Below w3.heap.size w3 wr) ∧ Hid (RowAt encB 1 wr sv (vv (es.take i)))) (fun iv _ _ => N - (intOf iv).toNat)
      case atStart => exact ⟨0, by omega, rfl, HB34, HRS⟩
      case round =>
        clear HRS HB34
        obtain ⟨i, hi, rfl, HB, HRi⟩ := hrel
        obtain ⟨ps, ks, rfl⟩ := HRi.out.form
        rw [HLL.out] at HRi ⊢
        by_cases hlt : i < N
        · obtain ⟨hx, sb, so, rfl, hsb, hcell⟩ := RowAt.pos layY (HU.out wr (HBE.out wr (HBW.out _ HB.out))) i hlt
          have HNE : Hid (∀ x' : Nx wr, x'.w.cell? ⟨sb, so + i * 3, none⟩ = some (.int .i64 es[i].1) ∧ x'.w.cell? ⟨sb, so + i * 3 + 1, none⟩ = some (.int .i64 es[i].2.1) ∧ x'.w.cell? ⟨sb, so + i * 3 + 2, none⟩ = some (.int .i64 es[i].2.2)) := fun x' => by
            rw [x'.h.cell (p := ⟨sb, so + i * 3, none⟩) hsb, x'.h.cell (p := ⟨sb, so + i * 3 + 1, none⟩) hsb, x'.h.cell (p := ⟨sb, so + i * 3 + 2, none⟩) hsb]
            exact ⟨hcell 0 _ rfl, hcell 1 _ rfl, hcell 2 _ rfl⟩
          have htk := hid (HTK.out i hx)
          obtain ⟨X, hX⟩ : ∃ X, X = es[i].1 := ⟨_, rfl⟩
          obtain ⟨Y, hY⟩ : ∃ Y, Y = es[i].2.1 := ⟨_, rfl⟩
          obtain ⟨F, hF⟩ : ∃ F, F = es[i].2.2 := ⟨_, rfl⟩
          have he : es[i] = (X, Y, F) := by rw [hX, hY, hF]
          rw [he] at htk
          rw [← hX, ← hY, ← hF] at HNE
          clear hcell hX hY hF he
          have e2 : (i : Int) < (N : Int) := by omega
          have e3 : (0 : Int) ≤ (i : Int) := by omega
          go_upto_region 12 with fail
          have n0 : ∀ z : Nx wr, z.w.cell? ⟨B, 0, none⟩ = some (.int .i64 a) := fun z => (HK.out z.w (HBW.out _ (HB.out.trans (z.h.mono HB.out.size)))).1
          have n1 : ∀ z : Nx wr, z.w.cell? ⟨B, 1, none⟩ = some (.int .i64 b) := fun z => (HK.out z.w (HBW.out _ (HB.out.trans (z.h.mono HB.out.size)))).2.1
          have n2 : ∀ z : Nx wr, z.w.cell? ⟨B, 2, none⟩ = some (.slice p M c) := fun z => (HK.out z.w (HBW.out _ (HB.out.trans (z.h.mono HB.out.size)))).2.2.1
          have n3 : ∀ z : Nx wr, z.w.cell? ⟨B, 3, none⟩ = some (.slice q O d) := fun z => (HK.out z.w (HBW.out _ (HB.out.trans (z.h.mono HB.out.size)))).2.2.2
          have n4 : ∀ z : Nx wr, z.w.cell? ⟨sb, so + i * 3, none⟩ = some (.int .i64 X) := fun z => (HNE.out z).1
          have n5 : ∀ z : Nx wr, z.w.cell? ⟨sb, so + i * 3 + 1, none⟩ = some (.int .i64 Y) := fun z => (HNE.out z).2.1
          have n6 : ∀ z : Nx wr, z.w.cell? ⟨sb, so + i * 3 + 2, none⟩ = some (.int .i64 F) := fun z => (HNE.out z).2.2
          have HBD : Hid (Below wr.heap.size wr wr.drew) := Below.drewN (Below.refl _ _) 1
          obtain ⟨P0, hP0⟩ : ∃ P0, P0 = wr.drew := ⟨_, rfl⟩
          refine wp_region_calm (S := fun w' => ∃ x : Nx wr, w' = x.w) [(0, false), (1, false), (2, false), (3, false), (4, false), (5, true), (6, true), (7, false), (8, false), (9, false), (10, false), (11, false)] (by kernel_rfl) (by kernel_rfl) rfl (by kernel_rfl) ⟨⟨wr.drew, HBD.out⟩, rfl⟩ ?_
          rw [← hP0] at HBD ⊢
          clear hP0
          repeat (refine plan_take rfl (fun K hK => ?_); go_simp; refine ⟨_, fun _ => rfl, hK _ ?_⟩; clear hK K)
          refine plan_turn rfl (fun K hK => ?_)
          go_simp
          obtain ⟨U, hU⟩ : ∃ U, U = P0.alloc (.cells #[Value.int .i64 X, .int .i64 Y, .int .i64 F] 48) := ⟨_, rfl⟩
          have HUB : Hid (Below P0.heap.size P0 U) := by rw [hU]; exact (Below.refl _ _).alloc (Nat.le_refl _) _
          have HUG : Hid (RowAt encY 3 U (.slice (some ⟨P0.heap.size, 0, none⟩) 1 1) [(X, Y, F)]) := by rw [hU]; exact RowAt.one _ _ _ _ rfl
          have HBU := hid (HBD.out.trans (HUB.out.mono HBD.out.size))
          rw [← hU]
          refine hK _ _ ⟨⟨U, HBU.out⟩, rfl⟩ ?_
          clear hK K hU HUB HBD
          refine plan_turn rfl (fun K hK => ?_)
          go_simp
          refine Calls.mono (h10.out [(X, Y, F)] _ _ _ (HM.out _ (HBE.out _ (HBW.out _ (HB.out.trans (HBU.out.mono HB.out.size))))) HUG.out (by simp)) ?_
          rintro _ w5 ⟨v5, rfl, ho5, hb5⟩
          have HB5 := hid (HBU.out.trans (hb5.mono HBU.out.size))
          refine hK _ _ ⟨⟨w5, HB5.out⟩, rfl⟩ ?_
          have hr5 := ho5.row layB
          obtain ⟨p5, k5, rfl⟩ := ho5.form
          rw [HLL.out] at hr5 ⊢
          have HR5 := hid hr5
          have HRS5 := hid (HRi.out.below HB5.out)
          clear hK K hb5 ho5 hr5 HBU HUG n0 n1 n2 n3 n4 n5 n6
          repeat (refine plan_take rfl (fun K hK => ?_); go_simp; refine ⟨_, fun _ => rfl, hK _ ?_⟩; clear hK K)
          refine plan_done ⟨rfl, ?_⟩
          go_wp2_with fail
          refine Calls.mono (h16.out (es.take i) [(X, Y, F)] _ _ _ HRS5.out HR5.out) ?_
          rintro e w6 ⟨v6, rfl, ho6, hb6⟩
          have HB6 := hid (HB.out.trans ((HB5.out.trans (hb6.mono HB5.out.size)).mono HB.out.size))
          have hr6 := ho6.row layB
          rw [← htk.out] at hr6
          have HR6 := hid hr6
          clear hb6 ho6 hr6
          go_wp2
          exact ⟨⟨i + 1, by omega, by simp, HB6, HR6⟩, by simp [intOf]; omega⟩
        · obtain rfl : i = N := by omega
          have ht : es.take i = es := by rw [HNN.out 0, List.take_length]
          rw [ht] at HRi
          go_wp2_with fail
          refine Calls.mono (h13.out _ _ _ _ _ _ (HRV.out _ HB.out) HRi.out) ?_
          rintro e w6 ⟨rfl, hb6⟩
          have HB6 := hid (HBW.out _ (HB.out.trans (hb6.mono HB.out.size)))
          clear hb6
          obtain ⟨c0, c1, c2, c3⟩ := HK.out w6 HB6.out
          have hwm : wrap64 (a * b) = (L : Int) := by rw [← HMUL.out 0]; exact wrap_small ⟨by omega, by have := HMUL.out 0; omega⟩
          go_wp2
          go_ret
          exact ⟨by simpa using HMUL.out 0, HBE.out _ HB6.out⟩
end Go.Proofs.Yteijncfnifebjaa
