/- The law PathBack, walked. -/
import Derived.Test.YtemcbonmlmobkaaBackWay
import Derived.Test.YtemcbonmlmobkaaIn
import Derived.Test.YtemcbonmlmobkaaOpen4
namespace Go.Proofs.Ytemcbonmlmobkaa
open Go.RowKit
set_option maxHeartbeats 4000000 in
theorem back_walk (m : Mp) (v : Value) (p : Option Addr) (N cap : Nat) (bl : List Cl) (x0 y0 x1 y1 mo cx cy : Int) (w : World) (hm : MapAt w v m) (hbl : CellsAt w (.slice p N cap) bl) :
    Calls Try.prog 6 #[v, .slice p N cap, .agg #[.int .i64 x0, .int .i64 y0, .int .i64 x1, .int .i64 y1, .int .i64 mo, .int .i64 cx, .int .i64 cy]] w fun e w' => Out w (.bool true) e w' := by
  have h8 : Hid (∀ W, Calls Try.prog 8 #[] W fun e w' => Out W (.bool true) e w') := awake_any
  have HLN : Hid (N = bl.length) := by
    obtain ⟨q, c, e, _⟩ := hbl
    simp only [Value.slice.injEq] at e
    exact e.2.1
  have h18 : Hid (∀ x y W, Below w.heap.size w W → Calls Try.prog 18 #[v, C x y] W fun e w' => Out W (.bool (free m x y)) e w') := fun x y W h => free_any m v x y W (hm.below h)
  have h17 : Hid (N ≤ 300 → ∀ x y W, Below w.heap.size w W → Calls Try.prog 17 #[.slice p N cap, C x y] W fun e w' => Out W (.bool (bl.contains (x, y))) e w') := fun hN x y W h => in_any bl p N cap x y W (hbl.below h) (by omega)
  have h10 : Hid (N ≤ 300 → ∀ ax ay bx by_ most W, Below w.heap.size w W → Calls Try.prog 10 #[v, .slice p N cap, C ax ay, C bx by_, .int .i64 most] W fun e w' => OutFind W (findV m bl (ax, ay) (bx, by_) most) e w') := fun hN ax ay bx by_ most W h => find_any m v _ bl ax ay bx by_ most W (hm.below h) (hbl.below h) (by rw [← HLN.out]; omega)
  have HFX : Hid (∀ most, 0 ≤ most → free m x0 y0 = true → free m x1 y1 = true → bl.contains (x0, y0) = false → bl.contains (x1, y1) = false → ∃ (l1 l2 : List Cl) (e : Int) (k : Nat), findV m bl (x0, y0) (x1, y1) most = (l1, e) ∧ findV m bl (x1, y1) (x0, y0) most = (l2, e) ∧ l1.length = k ∧ l2.length = k ∧ (k : Int) ≤ most ∧ k ≤ 1000 ∧ (e = 0 ∨ e = 3 ∨ e = 12)) := by
    intro most h0 f0 f1 c0 c1
    have hp : ∀ x y, free m x y = true → bl.contains (x, y) = false → formed m = true ∧ pass m bl (x, y) = true := fun x y h1 h2 => by
      unfold free at h1
      simp only [Bool.and_eq_true] at h1
      refine ⟨h1.1.1, ?_⟩
      unfold pass inn
      rw [h2, h1.1.2, h1.2]; rfl
    exact back_facts (hp _ _ f0 c0).1 (hp _ _ f0 c0).2 (hp _ _ f1 c1).2 h0
  obtain ⟨q1, c1, q2, c2, rfl, -, -⟩ := hm
  have h9 : Hid (∀ W, Calls Try.prog 9 #[.agg #[.int .i64 m.W, .int .i64 m.H, .slice q1 m.ts.length c1, .slice q2 m.os.length c2], .slice p N cap] W fun e w' => Out W (.bool (decide (m.ts.length ≤ 1000) && decide (m.os.length ≤ 1000) && decide (N ≤ 300))) e w') := fun W => few_any m.W m.H q1 q2 p m.ts.length m.os.length N c1 c2 cap W
  obtain ⟨FW, hFW⟩ : ∃ FW, FW = (decide (m.ts.length ≤ 1000) && decide (m.os.length ≤ 1000) && decide (N ≤ 300)) := ⟨_, rfl⟩
  have HFW : Hid (FW = true → N ≤ 300) := fun h => by
    rw [hFW] at h
    simp only [Bool.and_eq_true, decide_eq_true_eq] at h
    exact h.2
  rw [← hFW] at h9
  obtain ⟨S1, hS1⟩ : ∃ z, z = Value.slice q1 m.ts.length c1 := ⟨_, rfl⟩
  obtain ⟨S2, hS2⟩ : ∃ z, z = Value.slice q2 m.os.length c2 := ⟨_, rfl⟩
  obtain ⟨S3, hS3⟩ : ∃ z, z = Value.slice p N cap := ⟨_, rfl⟩
  obtain ⟨mW, hmW⟩ : ∃ z, z = m.W := ⟨_, rfl⟩
  obtain ⟨mH, hmH⟩ : ∃ z, z = m.H := ⟨_, rfl⟩
  rw [← hS1, ← hS2, ← hmW, ← hmH] at h18 h10 h9 ⊢
  rw [← hS3] at h17 h10 h9 ⊢
  clear hS1 hS2 hS3 hmW hmH hFW hbl
  unfold C Out at *
  go_enter Try.func6, Try.ntmps6
  go_upto_region 1 with fail
  obtain ⟨W, hW⟩ : ∃ W, W = ((w.alloc (.cells #[Value.int .i64 mW, .int .i64 mH, S1, S2] 24)).alloc (.cells #[Value.int .i64 x0, .int .i64 y0, .int .i64 x1, .int .i64 y1, .int .i64 mo, .int .i64 cx, .int .i64 cy] 30)) := ⟨_, rfl⟩
  obtain ⟨B, hB⟩ : ∃ B, B = w.heap.size := ⟨_, rfl⟩
  have HWB : Hid (Below w.heap.size w W) := by rw [hW]; exact ((Below.refl _ _).alloc (Nat.le_refl _) _).alloc (by simp) _
  have HK1 : Hid (Blk W B [.int .i64 mW, .int .i64 mH, S1, S2] 24) := by rw [hW, hB]; exact (Blk.new _ _ _).alloc _
  have HK2 : Hid (Blk W (B + 1) [.int .i64 x0, .int .i64 y0, .int .i64 x1, .int .i64 y1, .int .i64 mo, .int .i64 cx, .int .i64 cy] 30) := by rw [hW]; exact Blk.new' _ _ _ _ (by simp [hB])
  rw [← hW, ← hB]
  have HB := hid (fun (_ : Nat) => hB)
  clear hW hB
  have b0 : ∀ z : Nx W, z.w.cell? ⟨B + 1, 0, none⟩ = some (.int .i64 x0) := fun z => (HK2.out.below z.h HK2.out.lt).cell 0
  have b1 : ∀ z : Nx W, z.w.cell? ⟨B + 1, 1, none⟩ = some (.int .i64 y0) := fun z => (HK2.out.below z.h HK2.out.lt).cell 1
  have b2 : ∀ z : Nx W, z.w.cell? ⟨B + 1, 2, none⟩ = some (.int .i64 x1) := fun z => (HK2.out.below z.h HK2.out.lt).cell 2
  have b3 : ∀ z : Nx W, z.w.cell? ⟨B + 1, 3, none⟩ = some (.int .i64 y1) := fun z => (HK2.out.below z.h HK2.out.lt).cell 3
  have b4 : ∀ z : Nx W, z.w.cell? ⟨B + 1, 4, none⟩ = some (.int .i64 mo) := fun z => (HK2.out.below z.h HK2.out.lt).cell 4
  have HBD := hid (below_drew (Below.refl W.heap.size W))
  refine wp_region_calm (S := fun w' => ∃ z : Nx W, w' = z.w) [(0, false), (1, false), (2, false), (3, false), (4, false), (5, true), (6, true), (7, true)] (by kernel_rfl) (by kernel_rfl) rfl (by kernel_rfl) ⟨⟨W.drew, HBD.out⟩, rfl⟩ ?_
  repeat (refine plan_take rfl (fun K hK => ?_); go_simp; refine ⟨_, fun _ => rfl, hK _ ?_⟩; clear hK K)
  refine plan_turn rfl (fun K hK => ?_)
  go_simp
  obtain ⟨V0, hV0⟩ : ∃ V0, V0 = (W.alloc (.cells #[Value.int .i64 0, .int .i64 0, .int .i64 0, .int .i64 0] 28)).drew := ⟨_, rfl⟩
  obtain ⟨G, hG⟩ : ∃ G, G = W.heap.size := ⟨_, rfl⟩
  have HG0 : Hid (Blk V0 G [.int .i64 0, .int .i64 0, .int .i64 0, .int .i64 0] 28) := by rw [hV0, hG]; exact (Blk.new _ _ _).drew
  have HB0 : Hid (Below W.heap.size W V0) := by rw [hV0]; exact below_drew ((Below.refl _ _).alloc (Nat.le_refl _) _)
  rw [← hV0, ← hG]
  refine hK _ _ ⟨⟨V0, HB0.out⟩, rfl⟩ ?_
  clear hK K
  have HG := hid (fun (_ : Nat) => hG)
  clear hV0 hG b0 b1 b2 b3 b4 HBD
  have g0 : V0.cell? ⟨G, 0, none⟩ = some (.int .i64 0) := HG0.out.cell 0
  have g1 : V0.cell? ⟨G, 1, none⟩ = some (.int .i64 0) := HG0.out.cell 1
  have g2 : V0.cell? ⟨G, 2, none⟩ = some (.int .i64 0) := HG0.out.cell 2
  have g3 : V0.cell? ⟨G, 3, none⟩ = some (.int .i64 0) := HG0.out.cell 3
  have f0 := HG0.out.frozen 0
  have f1 := HG0.out.frozen 1
  have f2 := HG0.out.frozen 2
  have f3 := HG0.out.frozen 3
  refine plan_turn rfl (fun K hK => ?_)
  go_simp
  have hT := turn_four V0 G (.int .i64 x0) (.int .i64 y0) (.int .i64 x1) (.int .i64 y1)
  obtain ⟨V, hV⟩ : ∃ V, V = ((((V0.setCell ⟨G, 0, none⟩ (.int .i64 x0)).setCell ⟨G, 1, none⟩ (.int .i64 y0)).setCell ⟨G, 2, none⟩ (.int .i64 x1)).setCell ⟨G, 3, none⟩ (.int .i64 y1)) := ⟨_, rfl⟩
  have HVG : Hid (Blk V G [.int .i64 x0, .int .i64 y0, .int .i64 x1, .int .i64 y1] 28) := by rw [hV]; exact (((HG0.out.set 0 _).set 1 _).set 2 _).set 3 _
  rw [← hV] at hT ⊢
  have HBV : Hid (Below W.heap.size W V) := HB0.out.trans (hT.below (by rw [HG.out 0]; exact Nat.le_refl _))
  refine hK _ _ ⟨⟨V, HBV.out⟩, rfl⟩ ?_
  clear hK K hT hV HG0 HB0 g0 g1 g2 g3 f0 f1 f2 f3
  refine plan_turn rfl (fun K hK => ?_)
  go_simp
  refine hK _ _ ⟨⟨V, HBV.out⟩, rfl⟩ ?_
  clear hK K
  refine plan_done ⟨rfl, ?_⟩
  have HWV := hid (HWB.out.trans (HBV.out.mono HWB.out.size))
  have HC1 := hid (HK1.out.below HBV.out HK1.out.lt)
  obtain ⟨k, hk⟩ : ∃ k, k = mo.tmod 100 := ⟨_, rfl⟩
  rw [← hk]
  clear hk HK2 HK1 HBV HG HWB HB
  by_cases hneg : k < 0
  · go_wp2_with fail
    refine Calls.mono (h8.out V) ?_
    rintro e w2 ⟨rfl, hb2⟩
    have HB2 := hid (HWV.out.trans (hb2.mono HWV.out.size))
    clear hb2
    go_wp2
    go_ret
    exact ⟨rfl, HB2.out⟩
  · have hn' : (k < 0) = False := by simp; omega
    have hk0 : 0 ≤ k := by omega
    go_wp2_with fail
    refine Calls.mono (h8.out V) ?_
    rintro e w2 ⟨rfl, hb2⟩
    have HW2 := hid (HWV.out.trans (hb2.mono HWV.out.size))
    have HM2 := hid (HC1.out.below hb2 HC1.out.lt)
    have HG2 := hid (HVG.out.below hb2 HVG.out.lt)
    have m0 : w2.cell? ⟨B, 0, none⟩ = some (.int .i64 mW) := HM2.out.cell 0
    have m1 : w2.cell? ⟨B, 1, none⟩ = some (.int .i64 mH) := HM2.out.cell 1
    have m2 : w2.cell? ⟨B, 2, none⟩ = some S1 := HM2.out.cell 2
    have m3 : w2.cell? ⟨B, 3, none⟩ = some S2 := HM2.out.cell 3
    clear hb2 HWV HC1 HVG hneg
    go_wp2_with fail
    refine Calls.mono (h9.out w2) ?_
    rintro e w3 ⟨rfl, hb3⟩
    have HW3 := hid (HW2.out.trans (hb3.mono HW2.out.size))
    have HM3 := hid (HM2.out.below hb3 HM2.out.lt)
    have HG3 := hid (HG2.out.below hb3 HG2.out.lt)
    clear hb3 HW2 HM2 HG2 m0 m1 m2 m3
    rcases FW with _ | _
    · go_wp2_with fail
      refine Calls.mono (h8.out w3) ?_
      rintro e w4 ⟨rfl, hb4⟩
      have HB4 := hid (HW3.out.trans (hb4.mono HW3.out.size))
      clear hb4
      go_wp2
      go_ret
      exact ⟨rfl, HB4.out⟩
    · have hN := HFW.out rfl
      have H17 := hid (h17.out hN)
      have H10 := hid (h10.out hN)
      clear h17 h10 h9 h8 HFW hN
      go_upto_region 7 with fail
      have HB0 := hid (Below.refl w3.heap.size w3)
      have HI0 : Hid ((1 ≤ 0 → free m x0 y0 = true ∧ bl.contains (x0, y0) = false) ∧ (2 ≤ 0 → free m x1 y1 = true ∧ bl.contains (x1, y1) = false)) := ⟨fun h => by omega, fun h => by omega⟩
      go_loopw [9] (fun iv wr => ∃ i, iv = .int .i64 ((i : Nat) : Int) ∧ i ≤ 2 ∧ Hid (Below w3.heap.size w3 wr) ∧ Hid ((1 ≤ i → free m x0 y0 = true ∧ bl.contains (x0, y0) = false) ∧ (2 ≤ i → free m x1 y1 = true ∧ bl.contains (x1, y1) = false))) (fun iv _ => 3 - (intOf iv).toNat)
      case atStart => exact ⟨0, rfl, by omega, HB0, HI0⟩
      case round =>
        clear HB0 HI0
        obtain ⟨i, rfl, hi, HB1, HI⟩ := hrel
        obtain rfl | rfl | rfl : i = 0 ∨ i = 1 ∨ i = 2 := by omega
        · rw [show ((0 : Nat) : Int) = 0 from rfl]
          have c0 : ∀ z : Nx w3, z.w.cell? ⟨G, 0, none⟩ = some (.int .i64 x0) := fun z => (HG3.out.below z.h HG3.out.lt).cell 0
          have c1 : ∀ z : Nx w3, z.w.cell? ⟨G, 1, none⟩ = some (.int .i64 y0) := fun z => (HG3.out.below z.h HG3.out.lt).cell 1
          have m0 : ∀ z : Nx w3, z.w.cell? ⟨B, 0, none⟩ = some (.int .i64 mW) := fun z => (HM3.out.below z.h HM3.out.lt).cell 0
          have m1 : ∀ z : Nx w3, z.w.cell? ⟨B, 1, none⟩ = some (.int .i64 mH) := fun z => (HM3.out.below z.h HM3.out.lt).cell 1
          have m2 : ∀ z : Nx w3, z.w.cell? ⟨B, 2, none⟩ = some S1 := fun z => (HM3.out.below z.h HM3.out.lt).cell 2
          have m3 : ∀ z : Nx w3, z.w.cell? ⟨B, 3, none⟩ = some S2 := fun z => (HM3.out.below z.h HM3.out.lt).cell 3
          have HBd := hid (below_drew HB1.out)
          have H18 := hid (h18.out x0 y0)
          have H17' := hid (H17.out x0 y0)
          have HI2 : Hid (free m x0 y0 = true → bl.contains (x0, y0) = false → (1 ≤ 1 → free m x0 y0 = true ∧ bl.contains (x0, y0) = false) ∧ (2 ≤ 1 → free m x1 y1 = true ∧ bl.contains (x1, y1) = false)) := fun a b => ⟨fun _ => ⟨a, b⟩, fun h => by omega⟩
          generalize free m x0 y0 = F at *
          generalize bl.contains (x0, y0) = E at *
          go_upto_region 9 with fail
          refine wp_region_calm (S := fun w' => ∃ z : Nx w3, w' = z.w) [(0, false), (1, false), (2, false), (3, false), (4, true), (5, false), (6, false), (7, false), (8, false), (9, false), (10, false), (11, true), (12, false)] (by kernel_rfl) (by kernel_rfl) rfl (by kernel_rfl) ⟨⟨wr.drew, HBd.out⟩, rfl⟩ ?_
          iterate 4 (refine plan_take rfl (fun K hK => ?_); go_simp; refine ⟨_, fun _ => rfl, hK _ ?_⟩; clear hK K)
          refine plan_turn rfl (fun K hK => ?_)
          go_simp
          refine Calls.mono (H18.out _ (HW3.out.trans (HBd.out.mono HW3.out.size))) ?_
          rintro _ w4 ⟨rfl, hb4⟩
          have HB4 : Hid (Below w3.heap.size w3 w4) := HBd.out.trans (hb4.mono HBd.out.size)
          refine hK _ _ ⟨⟨w4, HB4.out⟩, rfl⟩ ?_
          clear hK K hb4 HBd
          rcases F with _ | _
          · repeat (refine plan_take rfl (fun K hK => ?_); go_simp; first | refine ⟨_, fun _ => rfl, hK _ ?_⟩ | refine hK _ ?_; clear hK K)
            refine plan_turn rfl (fun K hK => ?_)
            go_simp
            refine hK _ _ ⟨⟨w4, HB4.out⟩, rfl⟩ ?_
            clear hK K
            repeat (refine plan_take rfl (fun K hK => ?_); go_simp; first | refine ⟨_, fun _ => rfl, hK _ ?_⟩ | refine hK _ ?_; clear hK K)
            refine plan_done ⟨rfl, ?_⟩
            go_wp2
            go_ret
            exact ⟨rfl, HW3.out.trans (HB4.out.mono HW3.out.size)⟩
          · repeat (refine plan_take rfl (fun K hK => ?_); go_simp; first | refine ⟨_, fun _ => rfl, hK _ ?_⟩ | refine hK _ ?_; clear hK K)
            refine plan_turn rfl (fun K hK => ?_)
            go_simp
            refine Calls.mono (H17'.out _ (HW3.out.trans (HB4.out.mono HW3.out.size))) ?_
            rintro _ w5 ⟨rfl, hb5⟩
            have HB5 : Hid (Below w3.heap.size w3 w5) := HB4.out.trans (hb5.mono HB4.out.size)
            refine hK _ _ ⟨⟨w5, HB5.out⟩, rfl⟩ ?_
            clear hK K hb5 HB4
            repeat (refine plan_take rfl (fun K hK => ?_); go_simp; first | refine ⟨_, fun _ => rfl, hK _ ?_⟩ | refine hK _ ?_; clear hK K)
            refine plan_done ⟨rfl, ?_⟩
            rcases E with _ | _
            · have HI3 := hid (HI2.out rfl rfl)
              go_wp2
              go_roundw
              case rel => exact ⟨1, rfl, by omega, HB5, hid (by simp)⟩
              case measure => simp [intOf]
            · go_wp2
              go_ret
              exact ⟨rfl, HW3.out.trans (HB5.out.mono HW3.out.size)⟩
        · rw [show ((1 : Nat) : Int) = 1 from rfl]
          have c0 : ∀ z : Nx w3, z.w.cell? ⟨G, 2, none⟩ = some (.int .i64 x1) := fun z => (HG3.out.below z.h HG3.out.lt).cell 2
          have c1 : ∀ z : Nx w3, z.w.cell? ⟨G, 3, none⟩ = some (.int .i64 y1) := fun z => (HG3.out.below z.h HG3.out.lt).cell 3
          have m0 : ∀ z : Nx w3, z.w.cell? ⟨B, 0, none⟩ = some (.int .i64 mW) := fun z => (HM3.out.below z.h HM3.out.lt).cell 0
          have m1 : ∀ z : Nx w3, z.w.cell? ⟨B, 1, none⟩ = some (.int .i64 mH) := fun z => (HM3.out.below z.h HM3.out.lt).cell 1
          have m2 : ∀ z : Nx w3, z.w.cell? ⟨B, 2, none⟩ = some S1 := fun z => (HM3.out.below z.h HM3.out.lt).cell 2
          have m3 : ∀ z : Nx w3, z.w.cell? ⟨B, 3, none⟩ = some S2 := fun z => (HM3.out.below z.h HM3.out.lt).cell 3
          have HBd := hid (below_drew HB1.out)
          have H18 := hid (h18.out x1 y1)
          have H17' := hid (H17.out x1 y1)
          have HI2 : Hid (free m x1 y1 = true → bl.contains (x1, y1) = false → (1 ≤ 2 → free m x0 y0 = true ∧ bl.contains (x0, y0) = false) ∧ (2 ≤ 2 → free m x1 y1 = true ∧ bl.contains (x1, y1) = false)) := fun a b => ⟨fun _ => HI.out.1 (by omega), fun _ => ⟨a, b⟩⟩
          generalize free m x1 y1 = F at *
          generalize bl.contains (x1, y1) = E at *
          go_upto_region 9 with fail
          refine wp_region_calm (S := fun w' => ∃ z : Nx w3, w' = z.w) [(0, false), (1, false), (2, false), (3, false), (4, true), (5, false), (6, false), (7, false), (8, false), (9, false), (10, false), (11, true), (12, false)] (by kernel_rfl) (by kernel_rfl) rfl (by kernel_rfl) ⟨⟨wr.drew, HBd.out⟩, rfl⟩ ?_
          iterate 4 (refine plan_take rfl (fun K hK => ?_); go_simp; refine ⟨_, fun _ => rfl, hK _ ?_⟩; clear hK K)
          refine plan_turn rfl (fun K hK => ?_)
          go_simp
          refine Calls.mono (H18.out _ (HW3.out.trans (HBd.out.mono HW3.out.size))) ?_
          rintro _ w4 ⟨rfl, hb4⟩
          have HB4 : Hid (Below w3.heap.size w3 w4) := HBd.out.trans (hb4.mono HBd.out.size)
          refine hK _ _ ⟨⟨w4, HB4.out⟩, rfl⟩ ?_
          clear hK K hb4 HBd
          rcases F with _ | _
          · repeat (refine plan_take rfl (fun K hK => ?_); go_simp; first | refine ⟨_, fun _ => rfl, hK _ ?_⟩ | refine hK _ ?_; clear hK K)
            refine plan_turn rfl (fun K hK => ?_)
            go_simp
            refine hK _ _ ⟨⟨w4, HB4.out⟩, rfl⟩ ?_
            clear hK K
            repeat (refine plan_take rfl (fun K hK => ?_); go_simp; first | refine ⟨_, fun _ => rfl, hK _ ?_⟩ | refine hK _ ?_; clear hK K)
            refine plan_done ⟨rfl, ?_⟩
            go_wp2
            go_ret
            exact ⟨rfl, HW3.out.trans (HB4.out.mono HW3.out.size)⟩
          · repeat (refine plan_take rfl (fun K hK => ?_); go_simp; first | refine ⟨_, fun _ => rfl, hK _ ?_⟩ | refine hK _ ?_; clear hK K)
            refine plan_turn rfl (fun K hK => ?_)
            go_simp
            refine Calls.mono (H17'.out _ (HW3.out.trans (HB4.out.mono HW3.out.size))) ?_
            rintro _ w5 ⟨rfl, hb5⟩
            have HB5 : Hid (Below w3.heap.size w3 w5) := HB4.out.trans (hb5.mono HB4.out.size)
            refine hK _ _ ⟨⟨w5, HB5.out⟩, rfl⟩ ?_
            clear hK K hb5 HB4
            repeat (refine plan_take rfl (fun K hK => ?_); go_simp; first | refine ⟨_, fun _ => rfl, hK _ ?_⟩ | refine hK _ ?_; clear hK K)
            refine plan_done ⟨rfl, ?_⟩
            rcases E with _ | _
            · have HI3 := hid (HI2.out rfl rfl)
              go_wp2
              go_roundw
              case rel => exact ⟨2, rfl, by omega, HB5, hid (by have h := HI3.out; simpa using h)⟩
              case measure => simp [intOf]
            · go_wp2
              go_ret
              exact ⟨rfl, HW3.out.trans (HB5.out.mono HW3.out.size)⟩
        · rw [show ((2 : Nat) : Int) = 2 from rfl]
          obtain ⟨fr0, ct0⟩ := HI.out.1 (by omega)
          obtain ⟨fr1, ct1⟩ := HI.out.2 (by omega)
          obtain ⟨l1, l2, e, n, r1, r2, n1, n2, hle, hn, he⟩ := HFX.out k hk0 fr0 fr1 ct0 ct1
          have H10a := hid (H10.out x0 y0 x1 y1 k)
          have H10b := hid (H10.out x1 y1 x0 y0 k)
          rw [r1] at H10a
          rw [r2] at H10b
          clear r1 r2 fr0 fr1 ct0 ct1 H10 H17 h18 HFX
          have HM1 := hid (HM3.out.below HB1.out HM3.out.lt)
          have HG1 := hid (HG3.out.below HB1.out HG3.out.lt)
          have HW1 := hid (HW3.out.trans (HB1.out.mono HW3.out.size))
          have c0 : wr.cell? ⟨G, 0, none⟩ = some (.int .i64 x0) := HG1.out.cell 0
          have c1 : wr.cell? ⟨G, 1, none⟩ = some (.int .i64 y0) := HG1.out.cell 1
          have c2 : wr.cell? ⟨G, 2, none⟩ = some (.int .i64 x1) := HG1.out.cell 2
          have c3 : wr.cell? ⟨G, 3, none⟩ = some (.int .i64 y1) := HG1.out.cell 3
          have m0 : wr.cell? ⟨B, 0, none⟩ = some (.int .i64 mW) := HM1.out.cell 0
          have m1 : wr.cell? ⟨B, 1, none⟩ = some (.int .i64 mH) := HM1.out.cell 1
          have m2 : wr.cell? ⟨B, 2, none⟩ = some S1 := HM1.out.cell 2
          have m3 : wr.cell? ⟨B, 3, none⟩ = some S2 := HM1.out.cell 3
          clear HB1 HM3 HG3 HW3 HI
          go_wp2_with fail
          refine Calls.mono (H10a.out wr HW1.out) ?_
          rintro e' w4 ⟨s1, rfl, ho1, hb4⟩
          obtain ⟨p1, k1, rfl⟩ := ho1.form
          rw [n1]
          have HM4 := hid (HM1.out.below hb4 HM1.out.lt)
          have HG4 := hid (HG1.out.below hb4 HG1.out.lt)
          have HW4 := hid (HW1.out.trans (hb4.mono HW1.out.size))
          clear c0 c1 c2 c3 m0 m1 m2 m3 HM1 HG1 HW1 hb4 ho1
          have c0 : w4.cell? ⟨G, 0, none⟩ = some (.int .i64 x0) := HG4.out.cell 0
          have c1 : w4.cell? ⟨G, 1, none⟩ = some (.int .i64 y0) := HG4.out.cell 1
          have c2 : w4.cell? ⟨G, 2, none⟩ = some (.int .i64 x1) := HG4.out.cell 2
          have c3 : w4.cell? ⟨G, 3, none⟩ = some (.int .i64 y1) := HG4.out.cell 3
          have m0 : w4.cell? ⟨B, 0, none⟩ = some (.int .i64 mW) := HM4.out.cell 0
          have m1 : w4.cell? ⟨B, 1, none⟩ = some (.int .i64 mH) := HM4.out.cell 1
          have m2 : w4.cell? ⟨B, 2, none⟩ = some S1 := HM4.out.cell 2
          have m3 : w4.cell? ⟨B, 3, none⟩ = some S2 := HM4.out.cell 3
          go_wp2_with fail
          refine Calls.mono (H10b.out w4 HW4.out) ?_
          rintro e' w5 ⟨s2, rfl, ho2, hb5⟩
          obtain ⟨p2, k2, rfl⟩ := ho2.form
          rw [n2]
          have HW5 := hid (HW4.out.trans (hb5.mono HW4.out.size))
          clear c0 c1 c2 c3 m0 m1 m2 m3 HM4 HG4 HW4 hb5 ho2 n1 n2
          rcases he with rfl | rfl | rfl
          · go_wp2
            go_ret
            exact ⟨rfl, HW5.out⟩
          · go_wp2
            go_ret
            exact ⟨rfl, HW5.out⟩
          · go_wp2
            go_ret
            exact ⟨rfl, HW5.out⟩
end Go.Proofs.Ytemcbonmlmobkaa
