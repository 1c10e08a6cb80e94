/- The law PathFinds, walked. -/
import Derived.Test.YtemcbonmlmobkaaRefStep
import Derived.Test.YtemcbonmlmobkaaRefS
import Derived.Test.YtemcbonmlmobkaaBackWalk
namespace Go.Proofs.Ytemcbonmlmobkaa
open Go.RowKit
attribute [local go_sem ↓] run_neqC run_eqlC
theorem findV_far (m : Mp) (bl : List Cl) (a b : Cl) : findV m bl a b 1000000 = findV m bl a b 9223372036854775807 := by
  unfold findV
  split
  · rfl
  · split
    · rfl
    · split
      · rfl
      · rename_i L h
        have := List.mem_of_find?_eq_some h
        rw [List.mem_range] at this
        rw [if_neg (by omega), if_neg (by omega)]
set_option maxRecDepth 4000 in
set_option maxHeartbeats 8000000 in
theorem finds_walk (m : Mp) (v : Value) (p : Option Addr) (N cap : Nat) (bl : List Cl) (x0 y0 x1 y1 mo cx cy : Int) (w : World) (hm : MapAt w v m) (hbl : CellsAt w (.slice p N cap) bl) :
    Calls Try.prog 3 #[v, .slice p N cap, .agg #[.int .i64 x0, .int .i64 y0, .int .i64 x1, .int .i64 y1, .int .i64 mo, .int .i64 cx, .int .i64 cy]] w fun e w' => Out w (.bool true) e w' := by
  have h8 : Hid (∀ W, Calls Try.prog 8 #[] W fun e w' => Out W (.bool true) e w') := awake_any
  have HLN : Hid (N = bl.length) := by
    obtain ⟨q, c, e, _⟩ := hbl
    simp only [Value.slice.injEq] at e
    exact e.2.1
  have h10 : Hid (N ≤ 300 → ∀ W, Below w.heap.size w W → Calls Try.prog 10 #[v, .slice p N cap, C x0 y0, C x1 y1, .int .i64 mo] W fun e w' => OutFind W (findV m bl (x0, y0) (x1, y1) mo) e w') := fun hN W h => find_any m v _ bl x0 y0 x1 y1 mo W (hm.below h) (hbl.below h) (by rw [← HLN.out]; omega)
  have h11 : Hid (N ≤ 300 → ∀ W, Below w.heap.size w W → Calls Try.prog 11 #[v, .slice p N cap, C x0 y0, C x1 y1, .int .i64 mo] W fun e w' => OutFind W (findV m bl (x0, y0) (x1, y1) mo) e w') := fun hN W h => refFind_any m v bl p N cap x0 y0 x1 y1 mo W (hm.below h) (hbl.below h) (by omega)
  have h12 : Hid (N ≤ 300 → ∀ W, Below w.heap.size w W → Calls Try.prog 12 #[v, .slice p N cap, C x0 y0, C x1 y1] W fun e w' => Out W (.tuple #[C (stepV (findV m bl (x0, y0) (x1, y1) 9223372036854775807)).1.1 (stepV (findV m bl (x0, y0) (x1, y1) 9223372036854775807)).1.2, .bool (stepV (findV m bl (x0, y0) (x1, y1) 9223372036854775807)).2]) e w') := fun hN W h => step_any m v _ bl x0 y0 x1 y1 W (hm.below h) (hbl.below h) (by rw [← HLN.out]; omega)
  have h13 : Hid (N ≤ 300 → ∀ W, Below w.heap.size w W → Calls Try.prog 13 #[v, .slice p N cap, C x0 y0, C x1 y1] W fun e w' => Out W (.tuple #[C (stepV (findV m bl (x0, y0) (x1, y1) 9223372036854775807)).1.1 (stepV (findV m bl (x0, y0) (x1, y1) 9223372036854775807)).1.2, .bool (stepV (findV m bl (x0, y0) (x1, y1) 9223372036854775807)).2]) e w') := fun hN W h => by
    have := refStep_any m v p N cap bl x0 y0 x1 y1 W (hm.below h) (hbl.below h) (by omega)
    rw [findV_far] at this
    exact this
  have h14 : Hid (∀ (cs : List Cl) p q N c c' W, CellsAt W (.slice p N c) cs → CellsAt W (.slice q N c') cs → N < 1000000000 → Calls Try.prog 14 #[.slice p N c, .slice q N c'] W fun e w' => Out W (.bool true) e w') := fun cs p q N c c' W h h' hs => refSameCells cs p q N c c' W h h' hs
  have HLL : Hid ((findV m bl (x0, y0) (x1, y1) mo).1.length ≤ 1000) := by
    rcases hR : findV m bl (x0, y0) (x1, y1) mo with ⟨l, e⟩
    rcases findV_ok hR with ⟨_, n, _, _, _, _, hn, _, hl⟩ | ⟨_, rfl⟩
    · exact hid (by simp only; omega)
    · exact hid (by simp)
  obtain ⟨q1, c1, q2, c2, rfl, -, -⟩ := hm
  have h9 : Hid (∀ W, Calls Try.prog 9 #[.agg #[.int .i64 m.W, .int .i64 m.H, .slice q1 m.ts.length c1, .slice q2 m.os.length c2], .slice p N cap] W fun e w' => Out W (.bool (decide (m.ts.length ≤ 1000) && decide (m.os.length ≤ 1000) && decide (N ≤ 300))) e w') := fun W => few_any m.W m.H q1 q2 p m.ts.length m.os.length N c1 c2 cap W
  obtain ⟨FW, hFW⟩ : ∃ FW, FW = (decide (m.ts.length ≤ 1000) && decide (m.os.length ≤ 1000) && decide (N ≤ 300)) := ⟨_, rfl⟩
  have HFW : Hid (FW = true → N ≤ 300) := fun h => by
    rw [hFW] at h
    simp only [Bool.and_eq_true, decide_eq_true_eq] at h
    exact h.2
  rw [← hFW] at h9
  obtain ⟨S1, hS1⟩ : ∃ z, z = Value.slice q1 m.ts.length c1 := ⟨_, rfl⟩
  obtain ⟨S2, hS2⟩ : ∃ z, z = Value.slice q2 m.os.length c2 := ⟨_, rfl⟩
  obtain ⟨S3, hS3⟩ : ∃ z, z = Value.slice p N cap := ⟨_, rfl⟩
  obtain ⟨mW, hmW⟩ : ∃ z, z = m.W := ⟨_, rfl⟩
  obtain ⟨mH, hmH⟩ : ∃ z, z = m.H := ⟨_, rfl⟩
  rw [← hS1, ← hS2, ← hmW, ← hmH] at h10 h11 h12 h13 h9 ⊢
  rw [← hS3] at h10 h11 h12 h13 h9 ⊢
  clear hS1 hS2 hS3 hmW hmH hFW hbl
  generalize stepV (findV m bl (x0, y0) (x1, y1) 9223372036854775807) = SV at *
  generalize findV m bl (x0, y0) (x1, y1) mo = R at *
  obtain ⟨⟨sx, sy⟩, sb⟩ := SV
  obtain ⟨l, e⟩ := R
  simp only at h12 h13
  unfold OutFind C Out at *
  simp only at h10 h11
  go_enter Try.func3, Try.ntmps3
  go_upto_region 1 with fail
  obtain ⟨W, hW⟩ : ∃ W, W = ((w.alloc (.cells #[Value.int .i64 mW, .int .i64 mH, S1, S2] 24)).alloc (.cells #[Value.int .i64 x0, .int .i64 y0, .int .i64 x1, .int .i64 y1, .int .i64 mo, .int .i64 cx, .int .i64 cy] 30)) := ⟨_, rfl⟩
  obtain ⟨B, hB⟩ : ∃ B, B = w.heap.size := ⟨_, rfl⟩
  have HWB : Hid (Below w.heap.size w W) := by rw [hW]; exact ((Below.refl _ _).alloc (Nat.le_refl _) _).alloc (by simp) _
  have HK1 : Hid (Blk W B [.int .i64 mW, .int .i64 mH, S1, S2] 24) := by rw [hW, hB]; exact (Blk.new _ _ _).alloc _
  have HK2 : Hid (Blk W (B + 1) [.int .i64 x0, .int .i64 y0, .int .i64 x1, .int .i64 y1, .int .i64 mo, .int .i64 cx, .int .i64 cy] 30) := by rw [hW]; exact Blk.new' _ _ _ _ (by simp [hB])
  rw [← hW, ← hB]
  have HB := hid (fun (_ : Nat) => hB)
  clear hW hB
  have b0 : ∀ z : Nx W, z.w.cell? ⟨B + 1, 0, none⟩ = some (.int .i64 x0) := fun z => (HK2.out.below z.h HK2.out.lt).cell 0
  have b1 : ∀ z : Nx W, z.w.cell? ⟨B + 1, 1, none⟩ = some (.int .i64 y0) := fun z => (HK2.out.below z.h HK2.out.lt).cell 1
  have b2 : ∀ z : Nx W, z.w.cell? ⟨B + 1, 2, none⟩ = some (.int .i64 x1) := fun z => (HK2.out.below z.h HK2.out.lt).cell 2
  have b3 : ∀ z : Nx W, z.w.cell? ⟨B + 1, 3, none⟩ = some (.int .i64 y1) := fun z => (HK2.out.below z.h HK2.out.lt).cell 3
  have b4 : ∀ z : Nx W, z.w.cell? ⟨B + 1, 4, none⟩ = some (.int .i64 mo) := fun z => (HK2.out.below z.h HK2.out.lt).cell 4
  have HBD := hid (below_drew (Below.refl W.heap.size W))
  refine wp_region_calm (S := fun w' => ∃ z : Nx W, w' = z.w) [(0, false), (1, false), (2, false), (3, false), (4, true), (5, true), (6, true)] (by kernel_rfl) (by kernel_rfl) rfl (by kernel_rfl) ⟨⟨W.drew, HBD.out⟩, rfl⟩ ?_
  repeat (refine plan_take rfl (fun K hK => ?_); go_simp; refine ⟨_, fun _ => rfl, hK _ ?_⟩; clear hK K)
  refine plan_turn rfl (fun K hK => ?_)
  go_simp
  obtain ⟨V0, hV0⟩ : ∃ V0, V0 = (W.alloc (.cells #[Value.int .i64 0, .int .i64 0, .int .i64 0, .int .i64 0] 28)).drew := ⟨_, rfl⟩
  obtain ⟨G, hG⟩ : ∃ G, G = W.heap.size := ⟨_, rfl⟩
  have HG0 : Hid (Blk V0 G [.int .i64 0, .int .i64 0, .int .i64 0, .int .i64 0] 28) := by rw [hV0, hG]; exact (Blk.new _ _ _).drew
  have HB0 : Hid (Below W.heap.size W V0) := by rw [hV0]; exact below_drew ((Below.refl _ _).alloc (Nat.le_refl _) _)
  rw [← hV0, ← hG]
  refine hK _ _ ⟨⟨V0, HB0.out⟩, rfl⟩ ?_
  clear hK K
  have HG := hid (fun (_ : Nat) => hG)
  clear hV0 hG b0 b1 b2 b3 b4 HBD
  have g0 : V0.cell? ⟨G, 0, none⟩ = some (.int .i64 0) := HG0.out.cell 0
  have g1 : V0.cell? ⟨G, 1, none⟩ = some (.int .i64 0) := HG0.out.cell 1
  have g2 : V0.cell? ⟨G, 2, none⟩ = some (.int .i64 0) := HG0.out.cell 2
  have g3 : V0.cell? ⟨G, 3, none⟩ = some (.int .i64 0) := HG0.out.cell 3
  have f0 := HG0.out.frozen 0
  have f1 := HG0.out.frozen 1
  have f2 := HG0.out.frozen 2
  have f3 := HG0.out.frozen 3
  refine plan_turn rfl (fun K hK => ?_)
  go_simp
  have hT := turn_four V0 G (.int .i64 x0) (.int .i64 y0) (.int .i64 x1) (.int .i64 y1)
  obtain ⟨V, hV⟩ : ∃ V, V = ((((V0.setCell ⟨G, 0, none⟩ (.int .i64 x0)).setCell ⟨G, 1, none⟩ (.int .i64 y0)).setCell ⟨G, 2, none⟩ (.int .i64 x1)).setCell ⟨G, 3, none⟩ (.int .i64 y1)) := ⟨_, rfl⟩
  have HVG : Hid (Blk V G [.int .i64 x0, .int .i64 y0, .int .i64 x1, .int .i64 y1] 28) := by rw [hV]; exact (((HG0.out.set 0 _).set 1 _).set 2 _).set 3 _
  rw [← hV] at hT ⊢
  have HBV : Hid (Below W.heap.size W V) := HB0.out.trans (hT.below (by rw [HG.out 0]; exact Nat.le_refl _))
  refine hK _ _ ⟨⟨V, HBV.out⟩, rfl⟩ ?_
  clear hK K hT hV HG0 HB0 g0 g1 g2 g3 f0 f1 f2 f3
  refine plan_turn rfl (fun K hK => ?_)
  go_simp
  refine hK _ _ ⟨⟨V, HBV.out⟩, rfl⟩ ?_
  clear hK K
  refine plan_done ⟨rfl, ?_⟩
  have HWV := hid (HWB.out.trans (HBV.out.mono HWB.out.size))
  have HC1 := hid (HK1.out.below HBV.out HK1.out.lt)
  go_wp2_with fail
  refine Calls.mono (h8.out V) ?_
  rintro e2 w2 ⟨rfl, hb2⟩
  have HW2 := hid (HWV.out.trans (hb2.mono HWV.out.size))
  have HM2 := hid (HC1.out.below hb2 HC1.out.lt)
  have HG2 := hid (HVG.out.below hb2 HVG.out.lt)
  have m0 : w2.cell? ⟨B, 0, none⟩ = some (.int .i64 mW) := HM2.out.cell 0
  have m1 : w2.cell? ⟨B, 1, none⟩ = some (.int .i64 mH) := HM2.out.cell 1
  have m2 : w2.cell? ⟨B, 2, none⟩ = some S1 := HM2.out.cell 2
  have m3 : w2.cell? ⟨B, 3, none⟩ = some S2 := HM2.out.cell 3
  clear hb2 HWV HC1 HVG
  go_wp2_with fail
  refine Calls.mono (h9.out w2) ?_
  rintro e2 w3 ⟨rfl, hb3⟩
  have HW3 := hid (HW2.out.trans (hb3.mono HW2.out.size))
  have HM3 := hid (HM2.out.below hb3 HM2.out.lt)
  have HG3 := hid (HG2.out.below hb3 HG2.out.lt)
  clear hb3 HW2 HM2 HG2 m0 m1 m2 m3
  rcases FW with _ | _
  · go_wp2_with fail
    refine Calls.mono (h8.out w3) ?_
    rintro e2 w4 ⟨rfl, hb4⟩
    have HB4 := hid (HW3.out.trans (hb4.mono HW3.out.size))
    clear hb4
    go_wp2
    go_ret
    exact ⟨rfl, HB4.out⟩
  · have hN := HFW.out rfl
    have H10 := hid (h10.out hN)
    have H11 := hid (h11.out hN)
    have H12 := hid (h12.out hN)
    have H13 := hid (h13.out hN)
    clear h10 h11 h12 h13 h9 h8 HFW hN
    have HT : Hid (∀ w', Below w3.heap.size w3 w' → (w'.cell? ⟨B, 0, none⟩ = some (.int .i64 mW) ∧ w'.cell? ⟨B, 1, none⟩ = some (.int .i64 mH) ∧ w'.cell? ⟨B, 2, none⟩ = some S1 ∧ w'.cell? ⟨B, 3, none⟩ = some S2) ∧ (w'.cell? ⟨G, 0, none⟩ = some (.int .i64 x0) ∧ w'.cell? ⟨G, 1, none⟩ = some (.int .i64 y0) ∧ w'.cell? ⟨G, 2, none⟩ = some (.int .i64 x1) ∧ w'.cell? ⟨G, 3, none⟩ = some (.int .i64 y1))) := hid fun w' h => by
      have k1 := HM3.out.below h HM3.out.lt
      have k2 := HG3.out.below h HG3.out.lt
      exact ⟨⟨k1.cell 0, k1.cell 1, k1.cell 2, k1.cell 3⟩, k2.cell 0, k2.cell 1, k2.cell 2, k2.cell 3⟩
    have HWT : Hid (∀ w', Below w3.heap.size w3 w' → Below w.heap.size w w') := hid fun w' h => HW3.out.trans (h.mono HW3.out.size)
    obtain ⟨⟨a0, a1, a2, a3⟩, ⟨g0, g1, g2, g3⟩⟩ := HT.out _ (Below.refl _ _)
    have HWR := hid (HWT.out _ (Below.refl _ _))
    clear HM3 HG3
    go_wp2_with fail
    refine Calls.mono (H10.out w3 HWR.out) ?_
    rintro e' w4 ⟨s, rfl, ho4, hb4⟩
    obtain ⟨p4, k4, rfl⟩ := ho4.form
    have HO4 := hid ho4
    have HB4 := hid hb4
    clear ho4 hb4 a0 a1 a2 a3 g0 g1 g2 g3 H10
    obtain ⟨⟨a0, a1, a2, a3⟩, ⟨g0, g1, g2, g3⟩⟩ := HT.out _ HB4.out
    go_wp2_with fail
    refine Calls.mono (H11.out w4 (HWT.out _ HB4.out)) ?_
    rintro e' w5 ⟨s, rfl, ho5, hb5⟩
    obtain ⟨p5, k5, rfl⟩ := ho5.form
    have HO5 := hid ho5
    have HC5 := hid ((HO4.out.below hb5).cells)
    have HB5 := hid (HB4.out.trans (hb5.mono HB4.out.size))
    clear ho5 hb5 a0 a1 a2 a3 g0 g1 g2 g3 H11 HO4
    obtain ⟨⟨a0, a1, a2, a3⟩, ⟨g0, g1, g2, g3⟩⟩ := HT.out _ HB5.out
    go_wp2_with fail
    refine Calls.mono (H12.out w5 (HWT.out _ HB5.out)) ?_
    rintro e' w6 ⟨rfl, hb6⟩
    have HB6 := hid (HB5.out.trans (hb6.mono HB5.out.size))
    have HC6 := hid (HC5.out.below hb6)
    have HD6 := hid ((HO5.out.below hb6).cells)
    clear hb6 a0 a1 a2 a3 g0 g1 g2 g3 H12 HO5 HC5
    obtain ⟨V6, hV6⟩ : ∃ V, V = w6.alloc (.cells #[Value.int .i64 sx, .int .i64 sy] 27) := ⟨_, rfl⟩
    obtain ⟨X, hX⟩ : ∃ X, X = w6.heap.size := ⟨_, rfl⟩
    have hVB : Below w6.heap.size w6 V6 := by rw [hV6]; exact (Below.refl _ _).alloc (Nat.le_refl _) _
    have HX6 : Hid (Blk V6 X [.int .i64 sx, .int .i64 sy] 27) := by rw [hV6, hX]; exact hid (Blk.new _ _ _)
    have HB7 := hid (HB6.out.trans (hVB.mono HB6.out.size))
    have HC7 := hid (HC6.out.below hVB)
    have HD7 := hid (HD6.out.below hVB)
    go_upto_region 7 with fail
    rw [← hV6, ← hX]
    clear hV6 hX hVB HC6 HD6 HB6
    obtain ⟨⟨a0, a1, a2, a3⟩, ⟨g0, g1, g2, g3⟩⟩ := HT.out _ HB7.out
    go_wp2_with fail
    refine Calls.mono (H13.out V6 (HWT.out _ HB7.out)) ?_
    rintro e' w8 ⟨rfl, hb8⟩
    have HB8 := hid (HB7.out.trans (hb8.mono HB7.out.size))
    have HC8 := hid (HC7.out.below hb8)
    have HD8 := hid (HD7.out.below hb8)
    have HX8 : Hid (Blk w8 X [.int .i64 sx, .int .i64 sy] 27) := hid (HX6.out.below hb8 HX6.out.lt)
    clear hb8 a0 a1 a2 a3 g0 g1 g2 g3 H13 HC7 HD7 HB7 HX6
    obtain ⟨V8, hV8⟩ : ∃ V, V = w8.alloc (.cells #[Value.int .i64 sx, .int .i64 sy] 27) := ⟨_, rfl⟩
    obtain ⟨Y, hY⟩ : ∃ Y, Y = w8.heap.size := ⟨_, rfl⟩
    have hVB : Below w8.heap.size w8 V8 := by rw [hV8]; exact (Below.refl _ _).alloc (Nat.le_refl _) _
    have HY9 : Hid (Blk V8 Y [.int .i64 sx, .int .i64 sy] 27) := by rw [hV8, hY]; exact hid (Blk.new _ _ _)
    have HB9 := hid (HB8.out.trans (hVB.mono HB8.out.size))
    have HC9 := hid (HC8.out.below hVB)
    have HD9 := hid (HD8.out.below hVB)
    have HX9 : Hid (Blk V8 X [.int .i64 sx, .int .i64 sy] 27) := hid (HX8.out.below hVB HX8.out.lt)
    go_upto_region 8 with fail
    rw [← hV8, ← hY]
    clear hV8 hY hVB HC8 HD8 HB8 HX8
    have H14 := hid (h14.out l p4 p5 l.length k4 k5 V8 HC9.out HD9.out (by have := HLL.out; omega))
    go_wp2_with fail
    refine Calls.mono H14.out ?_
    rintro e' w10 ⟨rfl, hb10⟩
    have HB10 := hid (HB9.out.trans (hb10.mono HB9.out.size))
    have x0 : w10.cell? ⟨X, 0, none⟩ = some (.int .i64 sx) := (HX9.out.below hb10 HX9.out.lt).cell 0
    have x1 : w10.cell? ⟨X, 1, none⟩ = some (.int .i64 sy) := (HX9.out.below hb10 HX9.out.lt).cell 1
    have y0 : w10.cell? ⟨Y, 0, none⟩ = some (.int .i64 sx) := (HY9.out.below hb10 HY9.out.lt).cell 0
    have y1 : w10.cell? ⟨Y, 1, none⟩ = some (.int .i64 sy) := (HY9.out.below hb10 HY9.out.lt).cell 1
    have hsm : sameC sx sy sx sy = true := decide_eq_true rfl
    have HE := hid (HWT.out _ HB10.out)
    clear hb10
    go_wp2
    go_ret
    exact ⟨by simp, HE.out⟩
end Go.Proofs.Ytemcbonmlmobkaa
