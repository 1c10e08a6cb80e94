/- The reference: who sees whom, given what its Line answers. -/
import Derived.Test.YteijncfnifebjaaRefC
namespace Go.Proofs.Yteijncfnifebjaa
open Go.RowKit
theorem less_asymm {ax ay bx by_ : Int} (h : less bx by_ ax ay = true) : less ax ay bx by_ = false := by
  unfold less at *
  simp at *
  omega
set_option maxHeartbeats 4000000 in
theorem refClear_any (h27 : Line27) (m : Mp) (v : Value) (ax ay bx by_ : Int) (w : World) (hm : MapAt w v m) (hfm : formed m = true) : Calls Try.prog 34 #[v, C ax ay, C bx by_] w fun e w' => Out w (.bool (sees m ax ay bx by_)) e w' := by
  rcases hless : less bx by_ ax ay with _ | _
  · exact refClear_low h27 m v ax ay bx by_ w hm hfm hless
  have h56 : Hid (∀ W, Calls Try.prog 44 #[C bx by_, C ax ay] W fun e w' => Out W (.bool true) e w') := fun W => by have := refLess_any bx by_ ax ay W; rwa [hless] at this
  have h50 : Hid (∀ W v, MapAt W v m → Calls Try.prog 34 #[v, C bx by_, C ax ay] W fun e w' => Out W (.bool (sees m ax ay bx by_)) e w') := fun W v h => by
    rw [sees_comm]; exact refClear_low h27 m v bx by_ ax ay W h hfm (less_asymm hless)
  clear hless
  have h39 : Hid (∀ s t x y W, Calls Try.prog 35 #[.agg #[.int .i64 m.W, .int .i64 m.H, s, t], C x y] W fun e w' => Out W (.bool (holds m x y)) e w') := fun s t x y W => refHolds_any m s t x y W
  have HM := hid (fun W (h : Below w.heap.size w W) => hm.below h)
  have HF : Hid (holds m ax ay = false → sees m ax ay bx by_ = false) := fun h => by unfold sees; simp [h]
  have HG : Hid (holds m bx by_ = false → sees m ax ay bx by_ = false) := fun h => by unfold sees; simp [h]
  obtain ⟨p, c, q, d, rfl, -, -⟩ := hm
  unfold Out
  generalize sees m ax ay bx by_ = R at *
  clear hfm
  obtain ⟨a, b, ts, os⟩ := m
  simp only at HM h39 ⊢
  have h1 := hid (fun s t W => h39.out s t ax ay W)
  have h2 := hid (fun s t W => h39.out s t bx by_ W)
  clear h39
  generalize holds ⟨a, b, ts, os⟩ ax ay = F at *
  generalize holds ⟨a, b, ts, os⟩ bx by_ = G at *
  generalize ts.length = M at *
  generalize os.length = N at *
  unfold C at *
  go_enter Try.func34, Try.ntmps34
  go_upto_region 1 with (fail)
  obtain ⟨W, hW⟩ : ∃ W, W = ((w.alloc (.cells #[Value.int .i64 a, .int .i64 b, .slice p M c, .slice q N d] 24)).alloc (.cells #[Value.int .i64 ax, .int .i64 ay] 27)).alloc (.cells #[Value.int .i64 bx, .int .i64 by_] 27) := ⟨_, rfl⟩
  obtain ⟨B, hB⟩ : ∃ B, B = w.heap.size := ⟨_, rfl⟩
  rw [← hW, ← hB]
  obtain ⟨hk, hbe⟩ := map_cells_box w a b _ _ ax ay bx by_ W B hW hB
  obtain ⟨a0, a1, a2, a3, a4, a5, a6, a7⟩ := hk W (Below.refl _ _)
  have HK := hid hk
  have HBE := hid hbe
  clear hW hB hk hbe
  go_wp2_with fail
  refine Calls.mono (h1.out _ _ _) ?_
  rintro e w1 ⟨rfl, hb1⟩
  have HB1 := hid hb1
  obtain ⟨b0, b1, b2, b3, b4, b5, b6, b7⟩ := HK.out w1 hb1
  clear hb1 a0 a1 a2 a3 a4 a5 a6 a7
  rcases F with _ | _
  · have hR := HF.out rfl
    subst hR
    go_wp2
    go_ret
    exact ⟨rfl, HBE.out _ HB1.out⟩
  go_wp2_with fail
  refine Calls.mono (h2.out _ _ _) ?_
  rintro e w2 ⟨rfl, hb2⟩
  have HB2 := hid (HB1.out.trans (hb2.mono HB1.out.size))
  obtain ⟨c0, c1, c2, c3, c4, c5, c6, c7⟩ := HK.out w2 HB2.out
  clear hb2 b0 b1 b2 b3 b4 b5 b6 b7 HB1
  rcases G with _ | _
  · have hR := HG.out rfl
    subst hR
    go_wp2
    go_ret
    exact ⟨rfl, HBE.out _ HB2.out⟩
  go_wp2_with fail
  refine Calls.mono (h56.out _) ?_
  rintro e w3 ⟨rfl, hb3⟩
  have HB3 := hid (HB2.out.trans (hb3.mono HB2.out.size))
  obtain ⟨d0, d1, d2, d3, d4, d5, d6, d7⟩ := HK.out w3 HB3.out
  clear hb3 c0 c1 c2 c3 c4 c5 c6 c7 HB2
  go_wp2_with fail
  refine Calls.mono (h50.out _ _ (HM.out _ (HBE.out _ HB3.out))) ?_
  rintro e w4 ⟨rfl, hb4⟩
  have HB4 := hid (HB3.out.trans (hb4.mono HB3.out.size))
  clear hb4 d0 d1 d2 d3 d4 d5 d6 d7 HB3
  go_wp2
  go_ret
  exact ⟨rfl, HBE.out _ HB4.out⟩
set_option maxHeartbeats 4000000 in
theorem refSees_any (h27 : Line27) (m : Mp) (v : Value) (ax ay bx by_ : Int) (w : World) (hm : MapAt w v m) : Calls Try.prog 22 #[v, C ax ay, C bx by_] w fun e w' => Out w (.bool (sees m ax ay bx by_)) e w' := by
  have h16 : Hid (∀ W v, MapAt W v m → Calls Try.prog 24 #[v] W fun e w' => Out W (.bool (formed m)) e w') := fun W v h => refFormed_any m v W h
  have h50 : Hid (formed m = true → ∀ W v, MapAt W v m → Calls Try.prog 34 #[v, C ax ay, C bx by_] W fun e w' => Out W (.bool (sees m ax ay bx by_)) e w') := fun hf W v h => refClear_any h27 m v ax ay bx by_ W h hf
  have HM := hid (fun W (h : Below w.heap.size w W) => hm.below h)
  have HF : Hid (formed m = false → sees m ax ay bx by_ = false) := fun h => by unfold sees; simp [h]
  obtain ⟨p, c, q, d, rfl, -, -⟩ := hm
  unfold Out
  generalize sees m ax ay bx by_ = R at *
  generalize formed m = F at *
  obtain ⟨a, b, ts, os⟩ := m
  simp only at HM ⊢
  generalize ts.length = M at *
  generalize os.length = N at *
  unfold C at *
  go_enter Try.func22, Try.ntmps22
  go_upto_region 1 with (fail)
  obtain ⟨W, hW⟩ : ∃ W, W = ((w.alloc (.cells #[Value.int .i64 a, .int .i64 b, .slice p M c, .slice q N d] 24)).alloc (.cells #[Value.int .i64 ax, .int .i64 ay] 27)).alloc (.cells #[Value.int .i64 bx, .int .i64 by_] 27) := ⟨_, rfl⟩
  obtain ⟨B, hB⟩ : ∃ B, B = w.heap.size := ⟨_, rfl⟩
  rw [← hW, ← hB]
  obtain ⟨hk, hbe⟩ := map_cells_box w a b _ _ ax ay bx by_ W B hW hB
  obtain ⟨a0, a1, a2, a3, a4, a5, a6, a7⟩ := hk W (Below.refl _ _)
  have HK := hid hk
  have HBE := hid hbe
  clear hW hB hk hbe
  go_wp2_with fail
  refine Calls.mono (h16.out _ _ (HM.out _ (HBE.out _ (Below.refl _ _)))) ?_
  rintro e w1 ⟨rfl, hb1⟩
  have HB1 := hid hb1
  obtain ⟨b0, b1, b2, b3, b4, b5, b6, b7⟩ := HK.out w1 hb1
  clear hb1 a0 a1 a2 a3 a4 a5 a6 a7
  rcases F with _ | _
  · have hR := HF.out rfl
    subst hR
    go_wp2
    go_ret
    exact ⟨rfl, HBE.out _ HB1.out⟩
  go_wp2_with fail
  refine Calls.mono (h50.out trivial _ _ (HM.out _ (HBE.out _ HB1.out))) ?_
  rintro e w4 ⟨rfl, hb4⟩
  have HB4 := hid (HB1.out.trans (hb4.mono HB1.out.size))
  clear hb4 b0 b1 b2 b3 b4 b5 b6 b7 HB1
  go_wp2
  go_ret
  exact ⟨by simp, HBE.out _ HB4.out⟩
end Go.Proofs.Yteijncfnifebjaa
