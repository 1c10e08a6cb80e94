/- The walk of the law GridSeen. -/
import Derived.Test.YthinldcblbgdnaaDoorSeenFacts
import Derived.Test.YthinldcblbgdnaaDoorLinesWalk
namespace Go.Proofs.YthinldcblbgdnaaDoor
open Go.RowKit
set_option maxRecDepth 20000 in
set_option maxHeartbeats 8000000 in
theorem seen_many (m : Mp) (v : Value) (ax ay bx by_ : Int) (w : World) (hm : MapAt w v m) (hx : Max w) (hf : (decide (m.ts.length ≤ 1000) && decide (m.os.length ≤ 1000)) = false) : Calls Tryd.prog 6 #[v, C ax ay, C bx by_] w fun e w' => OutT w e w' := by
  have h8 : Hid (∀ W, Max W → Calls Tryd.prog 8 #[] W fun e w' => Out W (.bool true) e w') := awake_any
  obtain ⟨p, c, q, d, rfl, -, -⟩ := hm
  obtain ⟨a, b, ts, os⟩ := m
  simp only at hf ⊢
  generalize ts.length = M at *
  generalize os.length = N at *
  have h9 : Hid (∀ W, Calls Tryd.prog 9 #[.agg #[.int .i64 a, .int .i64 b, .slice p M c, .slice q N d]] W fun e w' => Out W (.bool false) e w') := fun W => by
    have := few_any a b p q M N c d W
    rwa [hf] at this
  have HX := hid hx
  clear hf hx
  unfold OutT
  unfold C at *
  go_enter Tryd.func6, Tryd.ntmps6
  go_upto_region 1 with (fail)
  obtain ⟨W, hW⟩ : ∃ W, W = ((w.alloc (.cells #[Value.int .i64 a, .int .i64 b, .slice p M c, .slice q N d] 24)).alloc (.cells #[Value.int .i64 ax, .int .i64 ay] 35)).alloc (.cells #[Value.int .i64 bx, .int .i64 by_] 35) := ⟨_, rfl⟩
  obtain ⟨B, hB⟩ : ∃ B, B = w.heap.size := ⟨_, rfl⟩
  rw [← hW, ← hB]
  obtain ⟨hk, hbe⟩ := map_cells_box w a b _ _ ax ay bx by_ W B hW hB
  have HBE := hid hbe
  have HK := hid hk
  clear hW hB hk hbe
  go_wp2_with fail
  refine Calls.mono (h8.out _ (Below.max (HBE.out W (Below.refl _ _)) HX.out)) ?_
  rintro e w1 ⟨rfl, hb1⟩
  have HB1 := hid hb1
  obtain ⟨b0, b1, b2, b3, b4, b5, b6, b7⟩ := HK.out w1 hb1
  clear hb1
  go_wp2_with fail
  refine Calls.mono (h9.out _) ?_
  rintro e w2 ⟨rfl, hb2⟩
  have HB2 := hid (HB1.out.trans (hb2.mono HB1.out.size))
  clear hb2 b0 b1 b2 b3 b4 b5 b6 b7
  go_wp2_with fail
  refine Calls.mono (h8.out _ (Below.max (HBE.out w2 HB2.out) HX.out)) ?_
  rintro e w3 ⟨rfl, hb3⟩
  have HB3 := hid (HB2.out.trans (hb3.mono HB2.out.size))
  clear hb3
  go_wp2
  go_ret
  exact ⟨rfl, HBE.out _ HB3.out⟩
set_option maxRecDepth 20000 in
set_option maxHeartbeats 8000000 in
theorem seen_walk (m : Mp) (v : Value) (ax ay bx by_ : Int) (w : World) (hm : MapAt w v m) (hx : Max w) (hf : (decide (m.ts.length ≤ 1000) && decide (m.os.length ≤ 1000)) = true) : Calls Tryd.prog 6 #[v, C ax ay, C bx by_] w fun e w' => OutT w e w' := by
  have h8 : Hid (∀ W, Max W → Calls Tryd.prog 8 #[] W fun e w' => Out W (.bool true) e w') := awake_any
  have h28 : Hid (∀ W v, MapAt W v m → Calls Tryd.prog 28 #[v, C ax ay, C bx by_] W fun e w' => Out W (.bool (sees m ax ay bx by_)) e w') := fun W v h => sees_any m v ax ay bx by_ W h
  have h28b : Hid (∀ W v, MapAt W v m → Calls Tryd.prog 28 #[v, C bx by_, C ax ay] W fun e w' => Out W (.bool (sees m ax ay bx by_)) e w') := fun W v h => by
    have := sees_any m v bx by_ ax ay W h
    rwa [sees_comm] at this
  have h17 : Hid (∀ W v, MapAt W v m → Calls Tryd.prog 17 #[v, C ax ay] W fun e w' => Out W (.bool (formed m && holds m ax ay)) e w') := fun W v h => inside_any m v ax ay W h
  have h17b : Hid (∀ W v, MapAt W v m → Calls Tryd.prog 17 #[v, C bx by_] W fun e w' => Out W (.bool (formed m && holds m bx by_)) e w') := fun W v h => inside_any m v bx by_ W h
  have HSI : Hid (sees m ax ay bx by_ = true → (formed m && holds m ax ay) = true ∧ (formed m && holds m bx by_) = true) := fun h => seen_in h
  have HIN : Hid ((formed m && holds m ax ay) = true → ∃ L : List (Int × Int), 2 ≤ L.length ∧ L.length ≤ 4 ∧ (∀ W v, MapAt W v m → Calls Tryd.prog 22 #[v, C ax ay] W fun e w' => OutLine W L e w') ∧ (∀ W v, MapAt W v m → Calls Tryd.prog 28 #[v, C ax ay, C ax ay] W fun e w' => Out W (.bool true) e w') ∧
      (∀ i, i < L.length → (∀ W v, MapAt W v m → Calls Tryd.prog 28 #[v, C ax ay, C (L.getD i (0, 0)).1 (L.getD i (0, 0)).2] W fun e w' => Out W (.bool true) e w') ∧ (∀ W, Calls Tryd.prog 24 #[C ax ay, C (L.getD i (0, 0)).1 (L.getD i (0, 0)).2] W fun e w' => Out W (.int .i64 1) e w') ∧ (∀ W v, MapAt W v m → Calls Tryd.prog 17 #[v, C (L.getD i (0, 0)).1 (L.getD i (0, 0)).2] W fun e w' => Out W (.bool true) e w'))) := fun h => by
    rw [Bool.and_eq_true] at h
    obtain ⟨n1, n2, n3⟩ := near_facts h.1 h.2
    refine ⟨near m ax ay, n1, n2, fun W v hm => near_any m v ax ay W hm, fun W v hm => ?_, fun i hi => ⟨fun W v hm => ?_, fun W => ?_, fun W v hm => ?_⟩⟩
    · have := sees_any m v ax ay ax ay W hm
      rwa [sees_self h.1 h.2] at this
    · have := sees_any m v ax ay ((near m ax ay).getD i (0, 0)).1 ((near m ax ay).getD i (0, 0)).2 W hm
      rwa [(n3 i hi).1] at this
    · have := dist_any ax ay ((near m ax ay).getD i (0, 0)).1 ((near m ax ay).getD i (0, 0)).2 W
      rwa [(n3 i hi).2.1] at this
    · have := inside_any m v ((near m ax ay).getD i (0, 0)).1 ((near m ax ay).getD i (0, 0)).2 W hm
      rwa [(n3 i hi).2.2] at this
  have HM := hid (fun W (h : Below w.heap.size w W) => hm.below h)
  obtain ⟨p, c, q, d, rfl, -, -⟩ := hm
  generalize sees m ax ay bx by_ = S at *
  generalize (formed m && holds m ax ay) = IA at *
  generalize (formed m && holds m bx by_) = IB at *
  obtain ⟨a, b, ts, os⟩ := m
  simp only at hf HM ⊢
  generalize ts.length = M at *
  generalize os.length = N at *
  have h9 : Hid (∀ W, Calls Tryd.prog 9 #[.agg #[.int .i64 a, .int .i64 b, .slice p M c, .slice q N d]] W fun e w' => Out W (.bool true) e w') := fun W => by
    have := few_any a b p q M N c d W
    rwa [hf] at this
  have HX := hid hx
  clear hf hx
  unfold OutT
  unfold C at *
  go_enter Tryd.func6, Tryd.ntmps6
  go_upto_region 1 with (fail)
  obtain ⟨W, hW⟩ : ∃ W, W = ((w.alloc (.cells #[Value.int .i64 a, .int .i64 b, .slice p M c, .slice q N d] 24)).alloc (.cells #[Value.int .i64 ax, .int .i64 ay] 35)).alloc (.cells #[Value.int .i64 bx, .int .i64 by_] 35) := ⟨_, rfl⟩
  obtain ⟨B, hB⟩ : ∃ B, B = w.heap.size := ⟨_, rfl⟩
  rw [← hW, ← hB]
  obtain ⟨hk, hbe⟩ := map_cells_box w a b _ _ ax ay bx by_ W B hW hB
  have HBE := hid hbe
  have HK := hid hk
  clear hW hB hk hbe
  go_wp2_with fail
  refine Calls.mono (h8.out _ (Below.max (HBE.out W (Below.refl _ _)) HX.out)) ?_
  rintro e w1 ⟨rfl, hb1⟩
  have HB1 := hid hb1
  obtain ⟨b0, b1, b2, b3, b4, b5, b6, b7⟩ := HK.out w1 hb1
  clear hb1
  go_wp2_with fail
  refine Calls.mono (h9.out _) ?_
  rintro e w2 ⟨rfl, hb2⟩
  have HB2 := hid (HB1.out.trans (hb2.mono HB1.out.size))
  clear hb2 b0 b1 b2 b3 b4 b5 b6 b7 HB1
  have HNX : Hid (∀ V, Below W.heap.size W V → ∀ x : Nx V, x.w.cell? ⟨B, 0, none⟩ = some (.int .i64 a) ∧ x.w.cell? ⟨B, 1, none⟩ = some (.int .i64 b) ∧ x.w.cell? ⟨B, 2, none⟩ = some (.slice p M c) ∧ x.w.cell? ⟨B, 3, none⟩ = some (.slice q N d) ∧ x.w.cell? ⟨B + 1, 0, none⟩ = some (.int .i64 ax) ∧ x.w.cell? ⟨B + 1, 1, none⟩ = some (.int .i64 ay) ∧ x.w.cell? ⟨B + 2, 0, none⟩ = some (.int .i64 bx) ∧ x.w.cell? ⟨B + 2, 1, none⟩ = some (.int .i64 by_)) := fun V h x => HK.out x.w (h.trans (x.h.mono h.size))
  have HMX : Hid (∀ V, Below W.heap.size W V → ∀ x : Nx V, MapAt x.w (.agg #[.int .i64 a, .int .i64 b, .slice p M c, .slice q N d]) ⟨a, b, ts, os⟩) := fun V h x => HM.out _ (HBE.out _ (h.trans (x.h.mono h.size)))
  go_upto_region 3 with fail
  have n0 := fun x => (HNX.out w2 HB2.out x).1
  have n1 := fun x => (HNX.out w2 HB2.out x).2.1
  have n2 := fun x => (HNX.out w2 HB2.out x).2.2.1
  have n3 := fun x => (HNX.out w2 HB2.out x).2.2.2.1
  have n4 := fun x => (HNX.out w2 HB2.out x).2.2.2.2.1
  have n5 := fun x => (HNX.out w2 HB2.out x).2.2.2.2.2.1
  have n6 := fun x => (HNX.out w2 HB2.out x).2.2.2.2.2.2.1
  have n7 := fun x => (HNX.out w2 HB2.out x).2.2.2.2.2.2.2
  have hne := Nx.some w2
  rcases IA with _ | _
  · have hS : S = false := by
      rcases S with _ | _
      · rfl
      · exact absurd (HSI.out (by first | rfl | trivial)).1 (by simp)
    subst hS
    refine wp_region_nx (by kernel_rfl) (by kernel_rfl) ?_
    repeat (first
      | go_big_quiet_skip
      | (go_big_quiet_want; go_big_quiet_op; first
        | go_big_quiet_on
        | (apply Exists.intro
           refine ⟨fun x => ?_, ?_⟩
           · first
             | (go_at_call 28; with_reducible exact nx_call x (h28.out _ _ (HMX.out w2 HB2.out x)))
             | (go_at_call 28; with_reducible exact nx_call x (h28b.out _ _ (HMX.out w2 HB2.out x)))
             | (go_at_call 17; with_reducible exact nx_call x (h17.out _ _ (HMX.out w2 HB2.out x)))
             | (go_at_call 17; with_reducible exact nx_call x (h17b.out _ _ (HMX.out w2 HB2.out x)))
           go_big_quiet_on)))
    refine wpQuiet_nil ?_
    rintro _ ⟨x, rfl⟩
    have HBV := hid (HB2.out.trans (x.h.mono HB2.out.size))
    generalize x.w = V at *
    clear n0 n1 n2 n3 n4 n5 n6 n7 hne
    obtain ⟨b0, b1, b2, b3, b4, b5, b6, b7⟩ := HK.out V HBV.out
    go_wp2_with fail
    refine Calls.mono (h17.out _ _ (HM.out _ (HBE.out V HBV.out))) ?_
    rintro e w3 ⟨rfl, hb3⟩
    have HB3 := hid (HBV.out.trans (hb3.mono HBV.out.size))
    clear hb3 b0 b1 b2 b3 b4 b5 b6 b7
    go_wp2
    go_ret
    exact ⟨rfl, HBE.out _ HB3.out⟩
  · have HIB : Hid (S = true → IB = true) := fun h => (HSI.out h).2
    obtain ⟨L, l1, l2, h22, h28c, hall⟩ := HIN.out (by first | rfl | trivial)
    have H22 := hid h22
    have H28c := hid h28c
    have HALL := hid hall
    clear h22 h28c hall HIN HSI
    have hSB : (S = false) ∨ (S = true ∧ IB = true) := by
      rcases S with _ | _
      · exact Or.inl rfl
      · exact Or.inr ⟨rfl, HIB.out (by first | rfl | trivial)⟩
    clear HIB
    rcases hSB with rfl | ⟨rfl, rfl⟩
    all_goals
    refine wp_region_nx (by kernel_rfl) (by kernel_rfl) ?_
    repeat (first
      | go_big_quiet_skip
      | (go_big_quiet_want; go_big_quiet_op; first
        | go_big_quiet_on
        | (apply Exists.intro
           refine ⟨fun x => ?_, ?_⟩
           · first
             | (go_at_call 28; with_reducible exact nx_call x (h28.out _ _ (HMX.out w2 HB2.out x)))
             | (go_at_call 28; with_reducible exact nx_call x (h28b.out _ _ (HMX.out w2 HB2.out x)))
             | (go_at_call 17; with_reducible exact nx_call x (h17.out _ _ (HMX.out w2 HB2.out x)))
             | (go_at_call 17; with_reducible exact nx_call x (h17b.out _ _ (HMX.out w2 HB2.out x)))
           go_big_quiet_on)))
    refine wpQuiet_nil ?_
    rintro _ ⟨x, rfl⟩
    have HBV := hid (HB2.out.trans (x.h.mono HB2.out.size))
    generalize x.w = V at *
    clear n0 n1 n2 n3 n4 n5 n6 n7 hne
    obtain ⟨b0, b1, b2, b3, b4, b5, b6, b7⟩ := HK.out V HBV.out
    go_wp2_with fail
    refine Calls.mono (h17.out _ _ (HM.out _ (HBE.out V HBV.out))) ?_
    rintro e w3 ⟨rfl, hb3⟩
    have HB3 := hid (HBV.out.trans (hb3.mono HBV.out.size))
    clear hb3 b0 b1 b2 b3 b4 b5 b6 b7
    obtain ⟨b0, b1, b2, b3, b4, b5, b6, b7⟩ := HK.out w3 HB3.out
    go_wp2_with fail
    refine Calls.mono (H22.out _ _ (HM.out _ (HBE.out w3 HB3.out))) ?_
    rintro e w4 ⟨v, rfl, hv, hb4⟩
    obtain ⟨pl, cl, rfl, hcells⟩ := hv
    obtain ⟨K, hK⟩ : ∃ K, K = L.length := ⟨_, rfl⟩
    obtain ⟨sb, so, rfl, hcs⟩ := hcells (by intro h; subst h; simp at l1)
    rw [← hK] at l1 l2 hcs ⊢
    have HKL : Hid (∀ (_ : Nat), K = L.length) := fun _ => hK
    have HCS : Hid (∀ W' (i : Nat), Below w4.heap.size w4 W' → i < K → W'.cell? ⟨sb, so + i * 2, none⟩ = some (.int .i64 (L.getD i (0, 0)).1) ∧ W'.cell? ⟨sb, so + i * 2 + 1, none⟩ = some (.int .i64 (L.getD i (0, 0)).2)) := fun W' i h hi => by
      have h1 := hcs i hi
      rw [h.cell (p := ⟨sb, so + i * 2, none⟩) (lt_of_cell h1.1), h.cell (p := ⟨sb, so + i * 2 + 1, none⟩) (lt_of_cell h1.2)]
      exact h1
    have HB4 := hid (HB3.out.trans (hb4.mono HB3.out.size))
    clear hb4 hcs hcells hK b0 b1 b2 b3 b4 b5 b6 b7
    go_wp2_with fail
    go_loopw [8] (fun iv wr => ∃ i : Nat, i ≤ K ∧ iv = .int .i64 (i : Int) ∧ Hid (Below w4.heap.size w4 wr)) (fun iv _ => K - (intOf iv).toNat)
    case atStart => exact ⟨0, by omega, rfl, hid (Below.refl _ _)⟩
    case round =>
      obtain ⟨i, hi, rfl, HBR⟩ := hrel
      have HBR2 := hid (HB4.out.trans (HBR.out.mono HB4.out.size))
      by_cases hl : i < K
      · have hl' : (i : Int) < (K : Int) := by omega
        have hl0 : (0 : Int) ≤ (i : Int) := by omega
        obtain ⟨s1, s2, s3⟩ := HALL.out i (by have := HKL.out 0; omega)
        have S1 := hid s1
        have S2 := hid s2
        have S3 := hid s3
        clear s1 s2 s3
        have n0 := fun x => (HNX.out wr HBR2.out x).1
        have n1 := fun x => (HNX.out wr HBR2.out x).2.1
        have n2 := fun x => (HNX.out wr HBR2.out x).2.2.1
        have n3 := fun x => (HNX.out wr HBR2.out x).2.2.2.1
        have n4 := fun x => (HNX.out wr HBR2.out x).2.2.2.2.1
        have n5 := fun x => (HNX.out wr HBR2.out x).2.2.2.2.2.1
        have d4 : ∀ x : Nx wr, x.w.cell? ⟨sb, so + i * 2, none⟩ = some (.int .i64 (L.getD i (0, 0)).1) := fun x => (HCS.out x.w i (HBR.out.trans (x.h.mono HBR.out.size)) hl).1
        have d5 : ∀ x : Nx wr, x.w.cell? ⟨sb, so + i * 2 + 1, none⟩ = some (.int .i64 (L.getD i (0, 0)).2) := fun x => (HCS.out x.w i (HBR.out.trans (x.h.mono HBR.out.size)) hl).2
        generalize (L.getD i (0, 0)).1 = X at *
        generalize (L.getD i (0, 0)).2 = Y at *
        have hne := Nx.some wr
        go_upto_region 11 with fail
        refine wp_region_nx (by kernel_rfl) (by kernel_rfl) ?_
        repeat (first
          | go_big_quiet_skip
          | (go_big_quiet_want; go_big_quiet_op; first
            | go_big_quiet_on
            | (apply Exists.intro
               refine ⟨fun x => ?_, ?_⟩
               · first
                 | (go_at_call 28; with_reducible exact nx_call x (S1.out _ _ (HMX.out wr HBR2.out x)))
                 | (go_at_call 24; with_reducible exact nx_call x (S2.out _))
                 | (go_at_call 17; with_reducible exact nx_call x (S3.out _ _ (HMX.out wr HBR2.out x)))
               go_big_quiet_on)))
        refine wpQuiet_nil ?_
        rintro _ ⟨x, rfl⟩
        have HBR3 := hid (HBR.out.trans (x.h.mono HBR.out.size))
        go_wp2
        go_roundw
        case rel => exact ⟨i + 1, by omega, by simp, HBR3⟩
        case measure => simp [intOf]; omega
      · obtain rfl : i = K := by omega
        have hl' : ((i : Int) < (i : Int)) = False := by simp
        obtain ⟨b0, b1, b2, b3, b4, b5, b6, b7⟩ := HK.out wr HBR2.out
        have l1' : (2 : Int) ≤ (i : Int) := by omega
        have l2' : (i : Int) ≤ 4 := by omega
        go_wp2_with fail
        refine Calls.mono (H28c.out _ _ (HM.out _ (HBE.out wr HBR2.out))) ?_
        rintro e w5 ⟨rfl, hb5⟩
        have HB5 := hid (HBR2.out.trans (hb5.mono HBR2.out.size))
        clear hb5
        go_wp2
        go_ret
        exact ⟨rfl, HBE.out _ HB5.out⟩
end Go.Proofs.YthinldcblbgdnaaDoor
