/- The walk of the law RosterNil. -/
import Derived.Test.YtdagkeklfhlcnaaNils
namespace Go.Proofs.Ytdagkeklfhlcnaa
open Go.RowKit
theorem belowSet {B : Nat} {a w : World} (h : Below B a w) {b : Nat} (hb : B ≤ b) (hB : B ≤ w.heap.size) (j : Nat) (v : Value) : Below B a (w.setCell ⟨b, j, none⟩ v) := Only.below h (Only.set b j w v) hb hB
attribute [local go_sem ↓] zv60
set_option maxRecDepth 20000 in
set_option maxHeartbeats 8000000 in
theorem nil_walk (e : List Int) (he : e.length = 11) (id : Int) (w : World) : Calls Try.prog 6 #[E e, .int .i64 id] w fun r w' => OutT w r w' := by
  obtain ⟨z0, z1, z2, z3, z4, z5, z6, z7, z8, z9, z10, rfl⟩ := eleven he
  have h7 : Hid (∀ W, Calls Try.prog 7 #[] W fun r w' => Out W (.bool true) r w') := awake_any
  have n14 : Hid (∀ W, Calls Try.prog 14 #[.pointer none, E [z0, z1, z2, z3, z4, z5, z6, z7, z8, z9, z10]] W fun r w' => Out W (.tuple #[.int .i64 0, .int .i64 7]) r w') := fun W => insNil_any _ rfl W
  have n17 : Hid (∀ W, Calls Try.prog 17 #[.pointer none, .int .i64 id] W fun r w' => Out W (.tuple #[E zE, .int .i64 3]) r w') := getNil_any id
  have n18 : Hid (∀ W, Calls Try.prog 18 #[.pointer none, .agg #[.int .i64 z3, .int .i64 z4]] W fun r w' => Out W (.tuple #[E zE, .bool false]) r w') := atNil_any z3 z4
  have n19 : Hid (∀ W, Calls Try.prog 19 #[.pointer none, E [z0, z1, z2, z3, z4, z5, z6, z7, z8, z9, z10]] W fun r w' => Out W (.int .i64 3) r w') := fun W => setNil_any _ rfl W
  have n15 := hid (remNil_any id)
  have n13 := hid listNil_any
  have n20 := hid (ofNil_any id)
  have n11 := hid nextNil_any
  have h14 : Hid (∀ b W, Tb W b [] 0 → Calls Try.prog 14 #[P b, E [z0, z1, z2, z3, z4, z5, z6, z7, z8, z9, z10]] W fun r w' => r = .returned (.tuple #[.int .i64 1, .int .i64 0]) ∧ Tb w' b [[1, z1, z2, z3, z4, z5, z6, z7, z8, z9, z10]] 1 ∧ Only b W w') := fun b W h => ins_any b [] 0 _ rfl W h (by omega) (by simp)
  have h13 : Hid (∀ b (past : Int) W, Tb W b [[1, z1, z2, z3, z4, z5, z6, z7, z8, z9, z10]] past → Calls Try.prog 13 #[P b] W fun r w' => ∃ g cap, r = .returned (.slice (some ⟨g, 0, none⟩) 1 cap) ∧ W.heap.size ≤ g ∧ g < w'.heap.size ∧ (∀ j, w'.frozen? ⟨g, j, none⟩ = false) ∧ (∀ k, k < 11 → w'.cell? ⟨g, k, none⟩ = some (.int .i64 (([1, z1, z2, z3, z4, z5, z6, z7, z8, z9, z10] : List Int).getD k 0))) ∧ Below W.heap.size W w') := fun b past W h => (list_any b _ past W h).mono (by
    rintro r w' ⟨v, rfl, ho, hb⟩
    obtain ⟨p, cap, rfl⟩ := ho.form
    obtain ⟨_, g, rfl, hg, hg2, hf, hc⟩ := ho.at (by simp)
    exact ⟨g, cap, rfl, hg, hg2, hf, fun k hk => by have := hc 0 (by simp) k hk; rw [Nat.zero_mul, Nat.zero_add] at this; exact this, hb⟩)
  have h16 : Hid (∀ g W, Blk W g [.int .i64 1, .int .i64 z1, .int .i64 z2, .int .i64 z3, .int .i64 z4, .int .i64 z5, .int .i64 z6, .int .i64 z7, .int .i64 z8, .int .i64 z9, .int .i64 z10] 32 → Calls Try.prog 16 #[.slice (some ⟨g, 0, none⟩) 1 1, .int .i64 5] W fun r w' => ∃ b, r = .returned (.tuple #[P b, .int .i64 0]) ∧ W.heap.size ≤ b ∧ Tb w' b [[1, z1, z2, z3, z4, z5, z6, z7, z8, z9, z10]] 4 ∧ Below W.heap.size W w') := fun g W h => fromOne_any g z1 z2 z3 z4 z5 z6 z7 z8 z9 z10 W h
  unfold OutT
  unfold Out E P at *
  simp only [List.map_cons, List.map_nil, I, zE] at n14 n17 n18 n19 h14 ⊢
  go_enter Try.func6, Try.ntmps6
  go_upto_region 1 with fail
  obtain ⟨W, hW⟩ : ∃ W, W = w.alloc (.cells #[Value.int .i64 z0, .int .i64 z1, .int .i64 z2, .int .i64 z3, .int .i64 z4, .int .i64 z5, .int .i64 z6, .int .i64 z7, .int .i64 z8, .int .i64 z9, .int .i64 z10] 32) := ⟨_, rfl⟩
  obtain ⟨B, hB⟩ : ∃ B, B = w.heap.size := ⟨_, rfl⟩
  rw [← hW, ← hB]
  obtain ⟨hk, hbe⟩ := ent_box w z0 z1 z2 z3 z4 z5 z6 z7 z8 z9 z10 W B hW hB
  have HK := hid hk
  have HBE := hid hbe
  clear hW hB hk hbe
  go_wp2_with fail
  refine Calls.mono (h7.out _) ?_
  rintro e w1 ⟨rfl, hb1⟩
  have HB1 := hid hb1
  obtain ⟨c0, c1, c2, c3, c4, c5, c6, c7, c8, c9, c10⟩ := HK.out w1 hb1
  clear hb1
  go_wp2_with fail
  refine Calls.mono (n14.out _) ?_
  rintro e w2 ⟨rfl, hb2⟩
  have HB2 := hid (HB1.out.trans (hb2.mono HB1.out.size))
  clear hb2 c0 c1 c2 c3 c4 c5 c6 c7 c8 c9 c10
  go_wp2_with fail
  refine Calls.mono (n17.out _) ?_
  rintro e w3 ⟨rfl, hb3⟩
  have HB3 := hid (HB2.out.trans (hb3.mono HB2.out.size))
  clear hb3
  go_upto_region 6 with fail
  have HB4 := hid (HB3.out.alloc HB3.out.size (.cells #[Value.int .i64 0, .int .i64 0, .int .i64 0, .int .i64 0, .int .i64 0, .int .i64 0, .int .i64 0, .int .i64 0, .int .i64 0, .int .i64 0, .int .i64 0] 32))
  generalize w3.alloc (.cells #[Value.int .i64 0, .int .i64 0, .int .i64 0, .int .i64 0, .int .i64 0, .int .i64 0, .int .i64 0, .int .i64 0, .int .i64 0, .int .i64 0, .int .i64 0] 32) = w4 at *
  obtain ⟨c0, c1, c2, c3, c4, c5, c6, c7, c8, c9, c10⟩ := HK.out w4 HB4.out
  go_wp2_with fail
  refine Calls.mono (n18.out _) ?_
  rintro e w5 ⟨rfl, hb5⟩
  have HB5 := hid (HB4.out.trans (hb5.mono HB4.out.size))
  clear hb5 c0 c1 c2 c3 c4 c5 c6 c7 c8 c9 c10
  go_upto_region 7 with fail
  have HB6 := hid (HB5.out.alloc HB5.out.size (.cells #[Value.int .i64 0, .int .i64 0, .int .i64 0, .int .i64 0, .int .i64 0, .int .i64 0, .int .i64 0, .int .i64 0, .int .i64 0, .int .i64 0, .int .i64 0] 32))
  generalize w5.alloc (.cells #[Value.int .i64 0, .int .i64 0, .int .i64 0, .int .i64 0, .int .i64 0, .int .i64 0, .int .i64 0, .int .i64 0, .int .i64 0, .int .i64 0, .int .i64 0] 32) = w6 at *
  obtain ⟨c0, c1, c2, c3, c4, c5, c6, c7, c8, c9, c10⟩ := HK.out w6 HB6.out
  go_wp2_with fail
  refine Calls.mono (n19.out _) ?_
  rintro e w7 ⟨rfl, hb7⟩
  have HB7 := hid (HB6.out.trans (hb7.mono HB6.out.size))
  clear hb7 c0 c1 c2 c3 c4 c5 c6 c7 c8 c9 c10
  go_wp2_with fail
  refine Calls.mono (n15.out _) ?_
  rintro e wx ⟨rfl, hw⟩
  subst hw
  go_wp2_with fail
  refine Calls.mono (n13.out _) ?_
  rintro e wx ⟨rfl, hw⟩
  subst hw
  go_wp2_with fail
  refine Calls.mono (n20.out _) ?_
  rintro e wx ⟨rfl, hw⟩
  subst hw
  go_wp2_with fail
  refine Calls.mono (n11.out _) ?_
  rintro e wx ⟨rfl, hw⟩
  subst hw
  go_upto_region 10 with fail
  obtain ⟨T, hT⟩ : ∃ T, T = wx.alloc (.cells zT.toArray 60) := ⟨_, rfl⟩
  obtain ⟨b, hb⟩ : ∃ b, b = wx.heap.size := ⟨_, rfl⟩
  rw [← hT, ← hb]
  have HT8 : Hid (Tb T b [] 0) := by rw [hT, hb]; exact Tb.zero (Blk.new _ _ _)
  have HB8 : Hid (Below W.heap.size W T) := by rw [hT]; exact HB7.out.alloc HB7.out.size _
  have HBB : Hid (W.heap.size ≤ b) := by rw [hb]; exact HB7.out.size
  clear hT hb
  obtain ⟨c0, c1, c2, c3, c4, c5, c6, c7, c8, c9, c10⟩ := HK.out T HB8.out
  go_wp2_with fail
  refine Calls.mono (h14.out b T HT8.out) ?_
  rintro e w9 ⟨rfl, ht9, ho9⟩
  have HT9 := hid ht9
  have HB9 := hid (Only.below HB8.out ho9 HBB.out HB8.out.size)
  clear ht9 ho9 c0 c1 c2 c3 c4 c5 c6 c7 c8 c9 c10
  go_wp2_with fail
  refine Calls.mono (h13.out b 1 w9 HT9.out) ?_
  rintro e w10 ⟨g1, cap1, rfl, hg1, hg2, hf1, hc1, hb10⟩
  have HT10 := hid (HT9.out.below hb10 HT9.out.lt)
  have HB10 := hid (HB9.out.trans (hb10.mono HB9.out.size))
  have HG1 : Hid (W.heap.size ≤ g1 ∧ b ≠ g1) := ⟨Nat.le_trans HB9.out.size hg1, by have := HT9.out.lt; omega⟩
  have d0 : w10.cell? ⟨g1, 0, none⟩ = some (.int .i64 1) := hc1 0 (by omega)
  have f0 := hf1 0
  clear hg1 hg2 hf1 hc1 hb10
  go_upto_region 15 with fail
  obtain ⟨V, hV⟩ : ∃ V, V = w10.setCell ⟨g1, 0, none⟩ (.int .i64 9) := ⟨_, rfl⟩
  rw [← hV]
  have HTV : Hid (Tb V b [[1, z1, z2, z3, z4, z5, z6, z7, z8, z9, z10]] 1) := by rw [hV]; exact HT10.out.keep (Below.heap_setCell _ _ _ _ HG1.out.2)
  have HBV : Hid (Below W.heap.size W V) := by rw [hV]; exact belowSet HB10.out HG1.out.1 HB10.out.size _ _
  clear hV d0 f0
  go_wp2_with fail
  refine Calls.mono (h13.out b 1 V HTV.out) ?_
  rintro e w11 ⟨g2, cap2, rfl, hg1, hg2, hf1, hc1, hb11⟩
  have HB11 := hid (HBV.out.trans (hb11.mono HBV.out.size))
  have HG2 : Hid (W.heap.size ≤ g2 ∧ g2 < w11.heap.size) := ⟨Nat.le_trans HBV.out.size hg1, hg2⟩
  have HC2 : Hid (∀ W' : World, W'.heap[g2]? = w11.heap[g2]? → W'.cell? ⟨g2, 0, none⟩ = some (.int .i64 1) ∧ W'.cell? ⟨g2, 1, none⟩ = some (.int .i64 z1) ∧ W'.cell? ⟨g2, 2, none⟩ = some (.int .i64 z2) ∧ W'.cell? ⟨g2, 3, none⟩ = some (.int .i64 z3) ∧ W'.cell? ⟨g2, 4, none⟩ = some (.int .i64 z4) ∧ W'.cell? ⟨g2, 5, none⟩ = some (.int .i64 z5) ∧ W'.cell? ⟨g2, 6, none⟩ = some (.int .i64 z6) ∧ W'.cell? ⟨g2, 7, none⟩ = some (.int .i64 z7) ∧ W'.cell? ⟨g2, 8, none⟩ = some (.int .i64 z8) ∧ W'.cell? ⟨g2, 9, none⟩ = some (.int .i64 z9) ∧ W'.cell? ⟨g2, 10, none⟩ = some (.int .i64 z10)) := fun W' hw => by
    have ec : ∀ j, W'.cell? ⟨g2, j, none⟩ = w11.cell? ⟨g2, j, none⟩ := fun j => by simp only [World.cell?, hw]
    exact ⟨(ec 0).trans (hc1 0 (by omega)), (ec 1).trans (hc1 1 (by omega)), (ec 2).trans (hc1 2 (by omega)), (ec 3).trans (hc1 3 (by omega)), (ec 4).trans (hc1 4 (by omega)), (ec 5).trans (hc1 5 (by omega)), (ec 6).trans (hc1 6 (by omega)), (ec 7).trans (hc1 7 (by omega)), (ec 8).trans (hc1 8 (by omega)), (ec 9).trans (hc1 9 (by omega)), (ec 10).trans (hc1 10 (by omega))⟩
  clear hg1 hg2 hf1 hc1 hb11
  obtain ⟨c0, c1, c2, c3, c4, c5, c6, c7, c8, c9, c10⟩ := HC2.out w11 rfl
  go_upto_region 17 with fail
  clear c0 c1 c2 c3 c4 c5 c6 c7 c8 c9 c10
  obtain ⟨U, hU⟩ : ∃ U, U = w11.alloc (.cells #[Value.int .i64 1, .int .i64 z1, .int .i64 z2, .int .i64 z3, .int .i64 z4, .int .i64 z5, .int .i64 z6, .int .i64 z7, .int .i64 z8, .int .i64 z9, .int .i64 z10] 32) := ⟨_, rfl⟩
  obtain ⟨g3, hg3⟩ : ∃ g3, g3 = w11.heap.size := ⟨_, rfl⟩
  rw [← hU, ← hg3]
  have HU3 : Hid (Blk U g3 [.int .i64 1, .int .i64 z1, .int .i64 z2, .int .i64 z3, .int .i64 z4, .int .i64 z5, .int .i64 z6, .int .i64 z7, .int .i64 z8, .int .i64 z9, .int .i64 z10] 32) := by rw [hU, hg3]; exact Blk.new _ _ _
  have HBU : Hid (Below W.heap.size W U) := by rw [hU]; exact HB11.out.alloc HB11.out.size _
  have HU2 : Hid (U.heap[g2]? = w11.heap[g2]?) := by rw [hU]; exact Below.heap_alloc _ _ _ HG2.out.2
  have HG3 : Hid (W.heap.size ≤ g3 ∧ g2 < g3 ∧ g3 < U.heap.size) := ⟨by rw [hg3]; exact HB11.out.size, by rw [hg3]; exact HG2.out.2, HU3.out.lt⟩
  clear hU hg3
  go_wp2_with fail
  refine Calls.mono (h16.out g3 U HU3.out) ?_
  rintro e w12 ⟨b2, rfl, hb2, ht12, hb12⟩
  have HT12 := hid ht12
  have HB12 := hid (HBU.out.trans (hb12.mono HBU.out.size))
  have H12 := hid (HU3.out.below hb12 HU3.out.lt)
  have H22 : Hid (w12.heap[g2]? = w11.heap[g2]?) := (hb12.block g2 (by have := HG3.out; omega)).trans HU2.out
  have HNE : Hid (b2 ≠ g3) := by have := HG3.out; show b2 ≠ g3; omega
  clear ht12 hb12 hb2
  have d0 : w12.cell? ⟨g3, 0, none⟩ = some (.int .i64 1) := H12.out.cell 0
  have f0 := H12.out.frozen 0
  go_upto_region 19 with fail
  obtain ⟨X, hX⟩ : ∃ X, X = w12.setCell ⟨g3, 0, none⟩ (.int .i64 3) := ⟨_, rfl⟩
  rw [← hX]
  have HTX : Hid (Tb X b2 [[1, z1, z2, z3, z4, z5, z6, z7, z8, z9, z10]] 4) := by rw [hX]; exact HT12.out.keep (Below.heap_setCell _ _ _ _ HNE.out)
  have HBX : Hid (Below W.heap.size W X) := by rw [hX]; exact belowSet HB12.out HG3.out.1 HB12.out.size _ _
  have HX2 : Hid (X.heap[g2]? = w11.heap[g2]?) := by rw [hX]; exact (Below.heap_setCell _ _ _ _ (by have := HG3.out; show g2 ≠ g3; omega)).trans H22.out
  clear hX d0 f0
  obtain ⟨c0, -, -, -, -, -, -, -, -, -, -⟩ := HC2.out X HX2.out
  go_wp2_with fail
  refine Calls.mono (h13.out b2 4 X HTX.out) ?_
  rintro e w13 ⟨g4, cap4, rfl, hg1, hg2, hf1, hc1, hb13⟩
  have HB13 := hid (HBX.out.trans (hb13.mono HBX.out.size))
  have k0 : w13.cell? ⟨g4, 0, none⟩ = some (.int .i64 1) := hc1 0 (by omega)
  clear hg1 hg2 hf1 hc1 hb13 c0
  go_wp2
  go_ret
  exact ⟨rfl, HBE.out _ HB13.out⟩
end Go.Proofs.Ytdagkeklfhlcnaa
