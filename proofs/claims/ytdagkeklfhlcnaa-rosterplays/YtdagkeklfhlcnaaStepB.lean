/- The step: Get. -/
import Derived.Test.YtdagkeklfhlcnaaStepA
namespace Go.Proofs.Ytdagkeklfhlcnaa
open Go.RowKit
set_option maxRecDepth 20000 in
set_option maxHeartbeats 8000000 in
theorem step2_none (g r : Nat) (l : List (List Int)) (past id : Int) (z0 z1 z2 z3 z4 z5 z6 z7 z8 z9 z10 : Int) (w : World) (hT : Tb w g l past) (hR : Rf w r l (past + 1)) (hgr : g < r) (hp : 0 ≤ past ∧ past < 1000) (hf : fnd l id 0 = -1) : Calls Try.prog 10 #[P g, P r, .agg #[.int .i64 2, .int .i64 id, .int .i64 z0, .int .i64 z1, .int .i64 z2, .int .i64 z3, .int .i64 z4, .int .i64 z5, .int .i64 z6, .int .i64 z7, .int .i64 z8, .int .i64 z9, .int .i64 z10]] w fun e w' => OutStep w g r past e w' := by
  have hn := hT.few
  obtain ⟨W, hW⟩ : ∃ W, W = w.alloc (.cells #[Value.int .i64 2, .int .i64 id, .int .i64 z0, .int .i64 z1, .int .i64 z2, .int .i64 z3, .int .i64 z4, .int .i64 z5, .int .i64 z6, .int .i64 z7, .int .i64 z8, .int .i64 z9, .int .i64 z10] 34) := ⟨_, rfl⟩
  obtain ⟨B, hB⟩ : ∃ B, B = w.heap.size := ⟨_, rfl⟩
  have HBW : Hid (Below w.heap.size w W) := by rw [hW]; exact (Below.refl _ _).alloc (Nat.le_refl _) _
  have HQ : Hid (Blk W B [.int .i64 2, .int .i64 id, .int .i64 z0, .int .i64 z1, .int .i64 z2, .int .i64 z3, .int .i64 z4, .int .i64 z5, .int .i64 z6, .int .i64 z7, .int .i64 z8, .int .i64 z9, .int .i64 z10] 34) := by rw [hW, hB]; exact Blk.new _ _ _
  have HT : Hid (Tb W g l past) := hT.below HBW.out hT.lt
  have HR : Hid (Rf W r l (past + 1)) := hR.below HBW.out
  have HGR := hid hgr
  have HRB : Hid (r < B) := by rw [hB]; exact hR.lt
  have HGS : Hid (g ≤ w.heap.size) := Nat.le_of_lt hT.lt
  have HP := hid hp
  have HB0 : Hid (Below g w W) := HBW.out.mono HGS.out
  have HNB : Hid (∀ v n, Blk W r [v, n] 38 → v.ownBlock ≠ some B) := fun v n hb e => by
    obtain ⟨v', h1, h2⟩ := hR
    have h3 := Blk.inj (h1.below HBW.out h1.lt) hb
    simp at h3
    rw [← h3.1] at e
    have := (h2.block B e).2
    omega
  have H17 : Hid (Calls Try.prog 17 #[P g, .int .i64 id] W fun e w' => Out W (.tuple #[E zE, .int .i64 3]) e w') := getNone_any g l past id W HT.out hf
  have H22 : Hid (∀ w1, Rf w1 r l (past + 1) → Calls Try.prog 22 #[P r, .int .i64 id] w1 fun e w' => Out w1 (.tuple #[E zE, .int .i64 3]) e w') := fun w1 h => rgetNone_any r l (past + 1) id w1 h (by omega) hf
  rw [E_zero] at H17 H22
  unfold OutStep
  unfold Out P at *
  try unfold E at *
  try simp only [List.map_cons, List.map_nil, I] at *
  clear hT hR hgr hp
  go_enter Try.func10, Try.ntmps10
  go_upto_region 1 with fail
  rw [← hW, ← hB]
  clear hW hB HBW
  have q0 : W.cell? ⟨B, 0, none⟩ = some (.int .i64 2) := HQ.out.cell 0
  have q1 : W.cell? ⟨B, 1, none⟩ = some (.int .i64 id) := HQ.out.cell 1
  have q2 : W.cell? ⟨B, 2, none⟩ = some (.int .i64 z0) := HQ.out.cell 2
  have q3 : W.cell? ⟨B, 3, none⟩ = some (.int .i64 z1) := HQ.out.cell 3
  have q4 : W.cell? ⟨B, 4, none⟩ = some (.int .i64 z2) := HQ.out.cell 4
  have q5 : W.cell? ⟨B, 5, none⟩ = some (.int .i64 z3) := HQ.out.cell 5
  have q6 : W.cell? ⟨B, 6, none⟩ = some (.int .i64 z4) := HQ.out.cell 6
  have q7 : W.cell? ⟨B, 7, none⟩ = some (.int .i64 z5) := HQ.out.cell 7
  have q8 : W.cell? ⟨B, 8, none⟩ = some (.int .i64 z6) := HQ.out.cell 8
  have q9 : W.cell? ⟨B, 9, none⟩ = some (.int .i64 z7) := HQ.out.cell 9
  have q10 : W.cell? ⟨B, 10, none⟩ = some (.int .i64 z8) := HQ.out.cell 10
  have q11 : W.cell? ⟨B, 11, none⟩ = some (.int .i64 z9) := HQ.out.cell 11
  have q12 : W.cell? ⟨B, 12, none⟩ = some (.int .i64 z10) := HQ.out.cell 12
  go_wp2_with fail
  refine Calls.mono H17.out ?_
  rintro e w1 ⟨rfl, hb⟩
  have HT1 := hid (HT.out.below hb HT.out.lt)
  have HR1 := hid (HR.out.below hb)
  have HQ1 := hid (HQ.out.below hb HQ.out.lt)
  have HB1 : Hid (Below g w w1) := HB0.out.trans (hb.mono (Nat.le_of_lt HT.out.lt))
  have hrr : w1.heap[r]? = W.heap[r]? := hb.block r HR.out.lt
  clear hb
  have HNB1 : Hid (∀ v n, Blk w1 r [v, n] 38 → v.ownBlock ≠ some B) := fun v n hb => HNB.out v n (by unfold Blk at *; rw [← hrr]; exact hb)
  clear hrr
  clear q0 q1 q2 q3 q4 q5 q6 q7 q8 q9 q10 q11 q12
  go_upto_region 8 with fail
  obtain ⟨V1, hV1⟩ : ∃ V1, V1 = w1.alloc (.cells #[Value.int .i64 0, .int .i64 0, .int .i64 0, .int .i64 0, .int .i64 0, .int .i64 0, .int .i64 0, .int .i64 0, .int .i64 0, .int .i64 0, .int .i64 0] 32) := ⟨_, rfl⟩
  obtain ⟨a1, ha1⟩ : ∃ a1, a1 = w1.heap.size := ⟨_, rfl⟩
  rw [← hV1, ← ha1]
  have HBV : Hid (Below w1.heap.size w1 V1) := by rw [hV1]; exact (Below.refl _ _).alloc (Nat.le_refl _) _
  have HA1 : Hid (Blk V1 a1 [.int .i64 0, .int .i64 0, .int .i64 0, .int .i64 0, .int .i64 0, .int .i64 0, .int .i64 0, .int .i64 0, .int .i64 0, .int .i64 0, .int .i64 0] 32) := by rw [hV1, ha1]; exact Blk.new _ _ _
  have HR1' := hid (HR1.out.below HBV.out)
  have HT1' := hid (HT1.out.below HBV.out HT1.out.lt)
  have HQ1' := hid (HQ1.out.below HBV.out HQ1.out.lt)
  have HB1' := hid (HB1.out.trans (HBV.out.mono (Nat.le_of_lt HT1.out.lt)))
  clear hV1 ha1
  have q0 : V1.cell? ⟨B, 0, none⟩ = some (.int .i64 2) := HQ1'.out.cell 0
  have q1 : V1.cell? ⟨B, 1, none⟩ = some (.int .i64 id) := HQ1'.out.cell 1
  have q2 : V1.cell? ⟨B, 2, none⟩ = some (.int .i64 z0) := HQ1'.out.cell 2
  have q3 : V1.cell? ⟨B, 3, none⟩ = some (.int .i64 z1) := HQ1'.out.cell 3
  have q4 : V1.cell? ⟨B, 4, none⟩ = some (.int .i64 z2) := HQ1'.out.cell 4
  have q5 : V1.cell? ⟨B, 5, none⟩ = some (.int .i64 z3) := HQ1'.out.cell 5
  have q6 : V1.cell? ⟨B, 6, none⟩ = some (.int .i64 z4) := HQ1'.out.cell 6
  have q7 : V1.cell? ⟨B, 7, none⟩ = some (.int .i64 z5) := HQ1'.out.cell 7
  have q8 : V1.cell? ⟨B, 8, none⟩ = some (.int .i64 z6) := HQ1'.out.cell 8
  have q9 : V1.cell? ⟨B, 9, none⟩ = some (.int .i64 z7) := HQ1'.out.cell 9
  have q10 : V1.cell? ⟨B, 10, none⟩ = some (.int .i64 z8) := HQ1'.out.cell 10
  have q11 : V1.cell? ⟨B, 11, none⟩ = some (.int .i64 z9) := HQ1'.out.cell 11
  have q12 : V1.cell? ⟨B, 12, none⟩ = some (.int .i64 z10) := HQ1'.out.cell 12
  go_wp2_with fail
  refine Calls.mono (H22.out _ HR1'.out) ?_
  rintro e w2 ⟨rfl, hb⟩
  have HR2 := hid (HR1'.out.below hb)
  have HT2 := hid (HT1'.out.below hb HT1'.out.lt)
  have HB2 := hid (HB1'.out.trans (hb.mono (Nat.le_of_lt HT1'.out.lt)))
  have HA2 := hid (HA1.out.below hb HA1.out.lt)
  clear q0 q1 q2 q3 q4 q5 q6 q7 q8 q9 q10 q11 q12
  clear hb
  go_upto_region 9 with fail
  obtain ⟨V2, hV2⟩ : ∃ V2, V2 = w2.alloc (.cells #[Value.int .i64 0, .int .i64 0, .int .i64 0, .int .i64 0, .int .i64 0, .int .i64 0, .int .i64 0, .int .i64 0, .int .i64 0, .int .i64 0, .int .i64 0] 32) := ⟨_, rfl⟩
  obtain ⟨a2, ha2⟩ : ∃ a2, a2 = w2.heap.size := ⟨_, rfl⟩
  rw [← hV2, ← ha2]
  have HBV2 : Hid (Below w2.heap.size w2 V2) := by rw [hV2]; exact (Below.refl _ _).alloc (Nat.le_refl _) _
  have HC2 : Hid (Blk V2 a2 [.int .i64 0, .int .i64 0, .int .i64 0, .int .i64 0, .int .i64 0, .int .i64 0, .int .i64 0, .int .i64 0, .int .i64 0, .int .i64 0, .int .i64 0] 32) := by rw [hV2, ha2]; exact Blk.new _ _ _
  have HA3 := hid (HA2.out.below HBV2.out HA2.out.lt)
  have HR3 := hid (HR2.out.below HBV2.out)
  have HT3 := hid (HT2.out.below HBV2.out HT2.out.lt)
  have HB3 := hid (HB2.out.trans (HBV2.out.mono (Nat.le_of_lt HT2.out.lt)))
  clear hV2 ha2
  have s0 : V2.cell? ⟨a1, 0, none⟩ = some (.int .i64 0) := HA3.out.cell 0
  have v0 : V2.cell? ⟨a2, 0, none⟩ = some (.int .i64 0) := HC2.out.cell 0
  have s1 : V2.cell? ⟨a1, 1, none⟩ = some (.int .i64 0) := HA3.out.cell 1
  have v1 : V2.cell? ⟨a2, 1, none⟩ = some (.int .i64 0) := HC2.out.cell 1
  have s2 : V2.cell? ⟨a1, 2, none⟩ = some (.int .i64 0) := HA3.out.cell 2
  have v2 : V2.cell? ⟨a2, 2, none⟩ = some (.int .i64 0) := HC2.out.cell 2
  have s3 : V2.cell? ⟨a1, 3, none⟩ = some (.int .i64 0) := HA3.out.cell 3
  have v3 : V2.cell? ⟨a2, 3, none⟩ = some (.int .i64 0) := HC2.out.cell 3
  have s4 : V2.cell? ⟨a1, 4, none⟩ = some (.int .i64 0) := HA3.out.cell 4
  have v4 : V2.cell? ⟨a2, 4, none⟩ = some (.int .i64 0) := HC2.out.cell 4
  have s5 : V2.cell? ⟨a1, 5, none⟩ = some (.int .i64 0) := HA3.out.cell 5
  have v5 : V2.cell? ⟨a2, 5, none⟩ = some (.int .i64 0) := HC2.out.cell 5
  have s6 : V2.cell? ⟨a1, 6, none⟩ = some (.int .i64 0) := HA3.out.cell 6
  have v6 : V2.cell? ⟨a2, 6, none⟩ = some (.int .i64 0) := HC2.out.cell 6
  have s7 : V2.cell? ⟨a1, 7, none⟩ = some (.int .i64 0) := HA3.out.cell 7
  have v7 : V2.cell? ⟨a2, 7, none⟩ = some (.int .i64 0) := HC2.out.cell 7
  have s8 : V2.cell? ⟨a1, 8, none⟩ = some (.int .i64 0) := HA3.out.cell 8
  have v8 : V2.cell? ⟨a2, 8, none⟩ = some (.int .i64 0) := HC2.out.cell 8
  have s9 : V2.cell? ⟨a1, 9, none⟩ = some (.int .i64 0) := HA3.out.cell 9
  have v9 : V2.cell? ⟨a2, 9, none⟩ = some (.int .i64 0) := HC2.out.cell 9
  have s10 : V2.cell? ⟨a1, 10, none⟩ = some (.int .i64 0) := HA3.out.cell 10
  have v10 : V2.cell? ⟨a2, 10, none⟩ = some (.int .i64 0) := HC2.out.cell 10
  go_wp2
  go_ret
  exact ⟨rfl, l, past, HP.out.1, by omega, HT3.out, HR3.out, HB3.out⟩
set_option maxRecDepth 20000 in
set_option maxHeartbeats 8000000 in
theorem step2 (g r : Nat) (l : List (List Int)) (past id : Int) (z0 z1 z2 z3 z4 z5 z6 z7 z8 z9 z10 : Int) (w : World) (hT : Tb w g l past) (hR : Rf w r l (past + 1)) (hgr : g < r) (hp : 0 ≤ past ∧ past < 1000) (i : Nat) (hf : fnd l id 0 = (i : Int)) (hi : i < l.length) : Calls Try.prog 10 #[P g, P r, .agg #[.int .i64 2, .int .i64 id, .int .i64 z0, .int .i64 z1, .int .i64 z2, .int .i64 z3, .int .i64 z4, .int .i64 z5, .int .i64 z6, .int .i64 z7, .int .i64 z8, .int .i64 z9, .int .i64 z10]] w fun e w' => OutStep w g r past e w' := by
  have hn := hT.few
  obtain ⟨W, hW⟩ : ∃ W, W = w.alloc (.cells #[Value.int .i64 2, .int .i64 id, .int .i64 z0, .int .i64 z1, .int .i64 z2, .int .i64 z3, .int .i64 z4, .int .i64 z5, .int .i64 z6, .int .i64 z7, .int .i64 z8, .int .i64 z9, .int .i64 z10] 34) := ⟨_, rfl⟩
  obtain ⟨B, hB⟩ : ∃ B, B = w.heap.size := ⟨_, rfl⟩
  have HBW : Hid (Below w.heap.size w W) := by rw [hW]; exact (Below.refl _ _).alloc (Nat.le_refl _) _
  have HQ : Hid (Blk W B [.int .i64 2, .int .i64 id, .int .i64 z0, .int .i64 z1, .int .i64 z2, .int .i64 z3, .int .i64 z4, .int .i64 z5, .int .i64 z6, .int .i64 z7, .int .i64 z8, .int .i64 z9, .int .i64 z10] 34) := by rw [hW, hB]; exact Blk.new _ _ _
  have HT : Hid (Tb W g l past) := hT.below HBW.out hT.lt
  have HR : Hid (Rf W r l (past + 1)) := hR.below HBW.out
  have HGR := hid hgr
  have HRB : Hid (r < B) := by rw [hB]; exact hR.lt
  have HGS : Hid (g ≤ w.heap.size) := Nat.le_of_lt hT.lt
  have HP := hid hp
  have HB0 : Hid (Below g w W) := HBW.out.mono HGS.out
  have HNB : Hid (∀ v n, Blk W r [v, n] 38 → v.ownBlock ≠ some B) := fun v n hb e => by
    obtain ⟨v', h1, h2⟩ := hR
    have h3 := Blk.inj (h1.below HBW.out h1.lt) hb
    simp at h3
    rw [← h3.1] at e
    have := (h2.block B e).2
    omega
  obtain ⟨y0, y1, y2, y3, y4, y5, y6, y7, y8, y9, y10, hy, -⟩ := hT.nums i hi
  have H17 : Hid (Calls Try.prog 17 #[P g, .int .i64 id] W fun e w' => Out W (.tuple #[E [y0, y1, y2, y3, y4, y5, y6, y7, y8, y9, y10], .int .i64 0]) e w') := by
    have := get_any g l past id i W HT.out hf hi
    rwa [hy] at this
  have H22 : Hid (∀ w1, Rf w1 r l (past + 1) → Calls Try.prog 22 #[P r, .int .i64 id] w1 fun e w' => Out w1 (.tuple #[E [y0, y1, y2, y3, y4, y5, y6, y7, y8, y9, y10], .int .i64 0]) e w') := fun w1 h => by
    have := rget_any r l (past + 1) id i w1 h (by omega) hf hi
    rwa [hy] at this
  clear hy hf hi
  unfold OutStep
  unfold Out P at *
  try unfold E at *
  try simp only [List.map_cons, List.map_nil, I] at *
  clear hT hR hgr hp
  go_enter Try.func10, Try.ntmps10
  go_upto_region 1 with fail
  rw [← hW, ← hB]
  clear hW hB HBW
  have q0 : W.cell? ⟨B, 0, none⟩ = some (.int .i64 2) := HQ.out.cell 0
  have q1 : W.cell? ⟨B, 1, none⟩ = some (.int .i64 id) := HQ.out.cell 1
  have q2 : W.cell? ⟨B, 2, none⟩ = some (.int .i64 z0) := HQ.out.cell 2
  have q3 : W.cell? ⟨B, 3, none⟩ = some (.int .i64 z1) := HQ.out.cell 3
  have q4 : W.cell? ⟨B, 4, none⟩ = some (.int .i64 z2) := HQ.out.cell 4
  have q5 : W.cell? ⟨B, 5, none⟩ = some (.int .i64 z3) := HQ.out.cell 5
  have q6 : W.cell? ⟨B, 6, none⟩ = some (.int .i64 z4) := HQ.out.cell 6
  have q7 : W.cell? ⟨B, 7, none⟩ = some (.int .i64 z5) := HQ.out.cell 7
  have q8 : W.cell? ⟨B, 8, none⟩ = some (.int .i64 z6) := HQ.out.cell 8
  have q9 : W.cell? ⟨B, 9, none⟩ = some (.int .i64 z7) := HQ.out.cell 9
  have q10 : W.cell? ⟨B, 10, none⟩ = some (.int .i64 z8) := HQ.out.cell 10
  have q11 : W.cell? ⟨B, 11, none⟩ = some (.int .i64 z9) := HQ.out.cell 11
  have q12 : W.cell? ⟨B, 12, none⟩ = some (.int .i64 z10) := HQ.out.cell 12
  go_wp2_with fail
  refine Calls.mono H17.out ?_
  rintro e w1 ⟨rfl, hb⟩
  have HT1 := hid (HT.out.below hb HT.out.lt)
  have HR1 := hid (HR.out.below hb)
  have HQ1 := hid (HQ.out.below hb HQ.out.lt)
  have HB1 : Hid (Below g w w1) := HB0.out.trans (hb.mono (Nat.le_of_lt HT.out.lt))
  have hrr : w1.heap[r]? = W.heap[r]? := hb.block r HR.out.lt
  clear hb
  have HNB1 : Hid (∀ v n, Blk w1 r [v, n] 38 → v.ownBlock ≠ some B) := fun v n hb => HNB.out v n (by unfold Blk at *; rw [← hrr]; exact hb)
  clear hrr
  clear q0 q1 q2 q3 q4 q5 q6 q7 q8 q9 q10 q11 q12
  go_upto_region 8 with fail
  obtain ⟨V1, hV1⟩ : ∃ V1, V1 = w1.alloc (.cells #[Value.int .i64 y0, .int .i64 y1, .int .i64 y2, .int .i64 y3, .int .i64 y4, .int .i64 y5, .int .i64 y6, .int .i64 y7, .int .i64 y8, .int .i64 y9, .int .i64 y10] 32) := ⟨_, rfl⟩
  obtain ⟨a1, ha1⟩ : ∃ a1, a1 = w1.heap.size := ⟨_, rfl⟩
  rw [← hV1, ← ha1]
  have HBV : Hid (Below w1.heap.size w1 V1) := by rw [hV1]; exact (Below.refl _ _).alloc (Nat.le_refl _) _
  have HA1 : Hid (Blk V1 a1 [.int .i64 y0, .int .i64 y1, .int .i64 y2, .int .i64 y3, .int .i64 y4, .int .i64 y5, .int .i64 y6, .int .i64 y7, .int .i64 y8, .int .i64 y9, .int .i64 y10] 32) := by rw [hV1, ha1]; exact Blk.new _ _ _
  have HR1' := hid (HR1.out.below HBV.out)
  have HT1' := hid (HT1.out.below HBV.out HT1.out.lt)
  have HQ1' := hid (HQ1.out.below HBV.out HQ1.out.lt)
  have HB1' := hid (HB1.out.trans (HBV.out.mono (Nat.le_of_lt HT1.out.lt)))
  clear hV1 ha1
  have q0 : V1.cell? ⟨B, 0, none⟩ = some (.int .i64 2) := HQ1'.out.cell 0
  have q1 : V1.cell? ⟨B, 1, none⟩ = some (.int .i64 id) := HQ1'.out.cell 1
  have q2 : V1.cell? ⟨B, 2, none⟩ = some (.int .i64 z0) := HQ1'.out.cell 2
  have q3 : V1.cell? ⟨B, 3, none⟩ = some (.int .i64 z1) := HQ1'.out.cell 3
  have q4 : V1.cell? ⟨B, 4, none⟩ = some (.int .i64 z2) := HQ1'.out.cell 4
  have q5 : V1.cell? ⟨B, 5, none⟩ = some (.int .i64 z3) := HQ1'.out.cell 5
  have q6 : V1.cell? ⟨B, 6, none⟩ = some (.int .i64 z4) := HQ1'.out.cell 6
  have q7 : V1.cell? ⟨B, 7, none⟩ = some (.int .i64 z5) := HQ1'.out.cell 7
  have q8 : V1.cell? ⟨B, 8, none⟩ = some (.int .i64 z6) := HQ1'.out.cell 8
  have q9 : V1.cell? ⟨B, 9, none⟩ = some (.int .i64 z7) := HQ1'.out.cell 9
  have q10 : V1.cell? ⟨B, 10, none⟩ = some (.int .i64 z8) := HQ1'.out.cell 10
  have q11 : V1.cell? ⟨B, 11, none⟩ = some (.int .i64 z9) := HQ1'.out.cell 11
  have q12 : V1.cell? ⟨B, 12, none⟩ = some (.int .i64 z10) := HQ1'.out.cell 12
  go_wp2_with fail
  refine Calls.mono (H22.out _ HR1'.out) ?_
  rintro e w2 ⟨rfl, hb⟩
  have HR2 := hid (HR1'.out.below hb)
  have HT2 := hid (HT1'.out.below hb HT1'.out.lt)
  have HB2 := hid (HB1'.out.trans (hb.mono (Nat.le_of_lt HT1'.out.lt)))
  have HA2 := hid (HA1.out.below hb HA1.out.lt)
  clear q0 q1 q2 q3 q4 q5 q6 q7 q8 q9 q10 q11 q12
  clear hb
  go_upto_region 9 with fail
  obtain ⟨V2, hV2⟩ : ∃ V2, V2 = w2.alloc (.cells #[Value.int .i64 y0, .int .i64 y1, .int .i64 y2, .int .i64 y3, .int .i64 y4, .int .i64 y5, .int .i64 y6, .int .i64 y7, .int .i64 y8, .int .i64 y9, .int .i64 y10] 32) := ⟨_, rfl⟩
  obtain ⟨a2, ha2⟩ : ∃ a2, a2 = w2.heap.size := ⟨_, rfl⟩
  rw [← hV2, ← ha2]
  have HBV2 : Hid (Below w2.heap.size w2 V2) := by rw [hV2]; exact (Below.refl _ _).alloc (Nat.le_refl _) _
  have HC2 : Hid (Blk V2 a2 [.int .i64 y0, .int .i64 y1, .int .i64 y2, .int .i64 y3, .int .i64 y4, .int .i64 y5, .int .i64 y6, .int .i64 y7, .int .i64 y8, .int .i64 y9, .int .i64 y10] 32) := by rw [hV2, ha2]; exact Blk.new _ _ _
  have HA3 := hid (HA2.out.below HBV2.out HA2.out.lt)
  have HR3 := hid (HR2.out.below HBV2.out)
  have HT3 := hid (HT2.out.below HBV2.out HT2.out.lt)
  have HB3 := hid (HB2.out.trans (HBV2.out.mono (Nat.le_of_lt HT2.out.lt)))
  clear hV2 ha2
  have s0 : V2.cell? ⟨a1, 0, none⟩ = some (.int .i64 y0) := HA3.out.cell 0
  have v0 : V2.cell? ⟨a2, 0, none⟩ = some (.int .i64 y0) := HC2.out.cell 0
  have s1 : V2.cell? ⟨a1, 1, none⟩ = some (.int .i64 y1) := HA3.out.cell 1
  have v1 : V2.cell? ⟨a2, 1, none⟩ = some (.int .i64 y1) := HC2.out.cell 1
  have s2 : V2.cell? ⟨a1, 2, none⟩ = some (.int .i64 y2) := HA3.out.cell 2
  have v2 : V2.cell? ⟨a2, 2, none⟩ = some (.int .i64 y2) := HC2.out.cell 2
  have s3 : V2.cell? ⟨a1, 3, none⟩ = some (.int .i64 y3) := HA3.out.cell 3
  have v3 : V2.cell? ⟨a2, 3, none⟩ = some (.int .i64 y3) := HC2.out.cell 3
  have s4 : V2.cell? ⟨a1, 4, none⟩ = some (.int .i64 y4) := HA3.out.cell 4
  have v4 : V2.cell? ⟨a2, 4, none⟩ = some (.int .i64 y4) := HC2.out.cell 4
  have s5 : V2.cell? ⟨a1, 5, none⟩ = some (.int .i64 y5) := HA3.out.cell 5
  have v5 : V2.cell? ⟨a2, 5, none⟩ = some (.int .i64 y5) := HC2.out.cell 5
  have s6 : V2.cell? ⟨a1, 6, none⟩ = some (.int .i64 y6) := HA3.out.cell 6
  have v6 : V2.cell? ⟨a2, 6, none⟩ = some (.int .i64 y6) := HC2.out.cell 6
  have s7 : V2.cell? ⟨a1, 7, none⟩ = some (.int .i64 y7) := HA3.out.cell 7
  have v7 : V2.cell? ⟨a2, 7, none⟩ = some (.int .i64 y7) := HC2.out.cell 7
  have s8 : V2.cell? ⟨a1, 8, none⟩ = some (.int .i64 y8) := HA3.out.cell 8
  have v8 : V2.cell? ⟨a2, 8, none⟩ = some (.int .i64 y8) := HC2.out.cell 8
  have s9 : V2.cell? ⟨a1, 9, none⟩ = some (.int .i64 y9) := HA3.out.cell 9
  have v9 : V2.cell? ⟨a2, 9, none⟩ = some (.int .i64 y9) := HC2.out.cell 9
  have s10 : V2.cell? ⟨a1, 10, none⟩ = some (.int .i64 y10) := HA3.out.cell 10
  have v10 : V2.cell? ⟨a2, 10, none⟩ = some (.int .i64 y10) := HC2.out.cell 10
  go_wp2
  go_ret
  exact ⟨rfl, l, past, HP.out.1, by omega, HT3.out, HR3.out, HB3.out⟩
end Go.Proofs.Ytdagkeklfhlcnaa
