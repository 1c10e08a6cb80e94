/- The step: Set, Remove. -/
import Derived.Test.YtdagkeklfhlcnaaStepA
namespace Go.Proofs.Ytdagkeklfhlcnaa
open Go.RowKit
set_option maxRecDepth 20000 in
set_option maxHeartbeats 8000000 in
theorem step3_none (g r : Nat) (l : List (List Int)) (past id : Int) (z0 z1 z2 z3 z4 z5 z6 z7 z8 z9 z10 : Int) (w : World) (hT : Tb w g l past) (hR : Rf w r l (past + 1)) (hgr : g < r) (hp : 0 ≤ past ∧ past < 1000) (hf : fnd l z0 0 = -1) : Calls Try.prog 10 #[P g, P r, .agg #[.int .i64 3, .int .i64 id, .int .i64 z0, .int .i64 z1, .int .i64 z2, .int .i64 z3, .int .i64 z4, .int .i64 z5, .int .i64 z6, .int .i64 z7, .int .i64 z8, .int .i64 z9, .int .i64 z10]] w fun e w' => OutStep w g r past e w' := by
  have hn := hT.few
  obtain ⟨W, hW⟩ : ∃ W, W = w.alloc (.cells #[Value.int .i64 3, .int .i64 id, .int .i64 z0, .int .i64 z1, .int .i64 z2, .int .i64 z3, .int .i64 z4, .int .i64 z5, .int .i64 z6, .int .i64 z7, .int .i64 z8, .int .i64 z9, .int .i64 z10] 34) := ⟨_, rfl⟩
  obtain ⟨B, hB⟩ : ∃ B, B = w.heap.size := ⟨_, rfl⟩
  have HBW : Hid (Below w.heap.size w W) := by rw [hW]; exact (Below.refl _ _).alloc (Nat.le_refl _) _
  have HQ : Hid (Blk W B [.int .i64 3, .int .i64 id, .int .i64 z0, .int .i64 z1, .int .i64 z2, .int .i64 z3, .int .i64 z4, .int .i64 z5, .int .i64 z6, .int .i64 z7, .int .i64 z8, .int .i64 z9, .int .i64 z10] 34) := by rw [hW, hB]; exact Blk.new _ _ _
  have HT : Hid (Tb W g l past) := hT.below HBW.out hT.lt
  have HR : Hid (Rf W r l (past + 1)) := hR.below HBW.out
  have HGR := hid hgr
  have HRB : Hid (r < B) := by rw [hB]; exact hR.lt
  have HGS : Hid (g ≤ w.heap.size) := Nat.le_of_lt hT.lt
  have HP := hid hp
  have HB0 : Hid (Below g w W) := HBW.out.mono HGS.out
  have HNB : Hid (∀ v n, Blk W r [v, n] 38 → v.ownBlock ≠ some B) := fun v n hb e => by
    obtain ⟨v', h1, h2⟩ := hR
    have h3 := Blk.inj (h1.below HBW.out h1.lt) hb
    simp at h3
    rw [← h3.1] at e
    have := (h2.block B e).2
    omega
  have H19 : Hid (∀ w0, Tb w0 g l past → Calls Try.prog 19 #[P g, E [z0, z1, z2, z3, z4, z5, z6, z7, z8, z9, z10]] w0 fun e w' => Out w0 (.int .i64 3) e w') := fun w0 h => setNone_any g l past [z0, z1, z2, z3, z4, z5, z6, z7, z8, z9, z10] rfl w0 h hf
  have H23 : Hid (∀ w1, Rf w1 r l (past + 1) → Calls Try.prog 23 #[P r, E [z0, z1, z2, z3, z4, z5, z6, z7, z8, z9, z10]] w1 fun e w' => Out w1 (.int .i64 3) e w') := fun w1 h => rsetNone_any r l (past + 1) [z0, z1, z2, z3, z4, z5, z6, z7, z8, z9, z10] rfl w1 h (by omega) hf
  clear hf
  unfold OutStep
  unfold Out P at *
  try unfold E at *
  try simp only [List.map_cons, List.map_nil, I] at *
  clear hT hR hgr hp
  go_enter Try.func10, Try.ntmps10
  go_upto_region 1 with fail
  rw [← hW, ← hB]
  clear hW hB HBW
  have q0 : W.cell? ⟨B, 0, none⟩ = some (.int .i64 3) := HQ.out.cell 0
  have q1 : W.cell? ⟨B, 1, none⟩ = some (.int .i64 id) := HQ.out.cell 1
  have q2 : W.cell? ⟨B, 2, none⟩ = some (.int .i64 z0) := HQ.out.cell 2
  have q3 : W.cell? ⟨B, 3, none⟩ = some (.int .i64 z1) := HQ.out.cell 3
  have q4 : W.cell? ⟨B, 4, none⟩ = some (.int .i64 z2) := HQ.out.cell 4
  have q5 : W.cell? ⟨B, 5, none⟩ = some (.int .i64 z3) := HQ.out.cell 5
  have q6 : W.cell? ⟨B, 6, none⟩ = some (.int .i64 z4) := HQ.out.cell 6
  have q7 : W.cell? ⟨B, 7, none⟩ = some (.int .i64 z5) := HQ.out.cell 7
  have q8 : W.cell? ⟨B, 8, none⟩ = some (.int .i64 z6) := HQ.out.cell 8
  have q9 : W.cell? ⟨B, 9, none⟩ = some (.int .i64 z7) := HQ.out.cell 9
  have q10 : W.cell? ⟨B, 10, none⟩ = some (.int .i64 z8) := HQ.out.cell 10
  have q11 : W.cell? ⟨B, 11, none⟩ = some (.int .i64 z9) := HQ.out.cell 11
  have q12 : W.cell? ⟨B, 12, none⟩ = some (.int .i64 z10) := HQ.out.cell 12
  go_upto_region 11 with fail
  clear q0 q1 q2 q3 q4 q5 q6 q7 q8 q9 q10 q11 q12
  have n0 : ∀ x : Bx B [Value.int .i64 3, .int .i64 id, .int .i64 z0, .int .i64 z1, .int .i64 z2, .int .i64 z3, .int .i64 z4, .int .i64 z5, .int .i64 z6, .int .i64 z7, .int .i64 z8, .int .i64 z9, .int .i64 z10], x.w.cell? ⟨B, 0, none⟩ = some (.int .i64 3) := fun x => x.h.cell 0
  have n1 : ∀ x : Bx B [Value.int .i64 3, .int .i64 id, .int .i64 z0, .int .i64 z1, .int .i64 z2, .int .i64 z3, .int .i64 z4, .int .i64 z5, .int .i64 z6, .int .i64 z7, .int .i64 z8, .int .i64 z9, .int .i64 z10], x.w.cell? ⟨B, 1, none⟩ = some (.int .i64 id) := fun x => x.h.cell 1
  have n2 : ∀ x : Bx B [Value.int .i64 3, .int .i64 id, .int .i64 z0, .int .i64 z1, .int .i64 z2, .int .i64 z3, .int .i64 z4, .int .i64 z5, .int .i64 z6, .int .i64 z7, .int .i64 z8, .int .i64 z9, .int .i64 z10], x.w.cell? ⟨B, 2, none⟩ = some (.int .i64 z0) := fun x => x.h.cell 2
  have n3 : ∀ x : Bx B [Value.int .i64 3, .int .i64 id, .int .i64 z0, .int .i64 z1, .int .i64 z2, .int .i64 z3, .int .i64 z4, .int .i64 z5, .int .i64 z6, .int .i64 z7, .int .i64 z8, .int .i64 z9, .int .i64 z10], x.w.cell? ⟨B, 3, none⟩ = some (.int .i64 z1) := fun x => x.h.cell 3
  have n4 : ∀ x : Bx B [Value.int .i64 3, .int .i64 id, .int .i64 z0, .int .i64 z1, .int .i64 z2, .int .i64 z3, .int .i64 z4, .int .i64 z5, .int .i64 z6, .int .i64 z7, .int .i64 z8, .int .i64 z9, .int .i64 z10], x.w.cell? ⟨B, 4, none⟩ = some (.int .i64 z2) := fun x => x.h.cell 4
  have n5 : ∀ x : Bx B [Value.int .i64 3, .int .i64 id, .int .i64 z0, .int .i64 z1, .int .i64 z2, .int .i64 z3, .int .i64 z4, .int .i64 z5, .int .i64 z6, .int .i64 z7, .int .i64 z8, .int .i64 z9, .int .i64 z10], x.w.cell? ⟨B, 5, none⟩ = some (.int .i64 z3) := fun x => x.h.cell 5
  have n6 : ∀ x : Bx B [Value.int .i64 3, .int .i64 id, .int .i64 z0, .int .i64 z1, .int .i64 z2, .int .i64 z3, .int .i64 z4, .int .i64 z5, .int .i64 z6, .int .i64 z7, .int .i64 z8, .int .i64 z9, .int .i64 z10], x.w.cell? ⟨B, 6, none⟩ = some (.int .i64 z4) := fun x => x.h.cell 6
  have n7 : ∀ x : Bx B [Value.int .i64 3, .int .i64 id, .int .i64 z0, .int .i64 z1, .int .i64 z2, .int .i64 z3, .int .i64 z4, .int .i64 z5, .int .i64 z6, .int .i64 z7, .int .i64 z8, .int .i64 z9, .int .i64 z10], x.w.cell? ⟨B, 7, none⟩ = some (.int .i64 z5) := fun x => x.h.cell 7
  have n8 : ∀ x : Bx B [Value.int .i64 3, .int .i64 id, .int .i64 z0, .int .i64 z1, .int .i64 z2, .int .i64 z3, .int .i64 z4, .int .i64 z5, .int .i64 z6, .int .i64 z7, .int .i64 z8, .int .i64 z9, .int .i64 z10], x.w.cell? ⟨B, 8, none⟩ = some (.int .i64 z6) := fun x => x.h.cell 8
  have n9 : ∀ x : Bx B [Value.int .i64 3, .int .i64 id, .int .i64 z0, .int .i64 z1, .int .i64 z2, .int .i64 z3, .int .i64 z4, .int .i64 z5, .int .i64 z6, .int .i64 z7, .int .i64 z8, .int .i64 z9, .int .i64 z10], x.w.cell? ⟨B, 9, none⟩ = some (.int .i64 z7) := fun x => x.h.cell 9
  have n10 : ∀ x : Bx B [Value.int .i64 3, .int .i64 id, .int .i64 z0, .int .i64 z1, .int .i64 z2, .int .i64 z3, .int .i64 z4, .int .i64 z5, .int .i64 z6, .int .i64 z7, .int .i64 z8, .int .i64 z9, .int .i64 z10], x.w.cell? ⟨B, 10, none⟩ = some (.int .i64 z8) := fun x => x.h.cell 10
  have n11 : ∀ x : Bx B [Value.int .i64 3, .int .i64 id, .int .i64 z0, .int .i64 z1, .int .i64 z2, .int .i64 z3, .int .i64 z4, .int .i64 z5, .int .i64 z6, .int .i64 z7, .int .i64 z8, .int .i64 z9, .int .i64 z10], x.w.cell? ⟨B, 11, none⟩ = some (.int .i64 z9) := fun x => x.h.cell 11
  have n12 : ∀ x : Bx B [Value.int .i64 3, .int .i64 id, .int .i64 z0, .int .i64 z1, .int .i64 z2, .int .i64 z3, .int .i64 z4, .int .i64 z5, .int .i64 z6, .int .i64 z7, .int .i64 z8, .int .i64 z9, .int .i64 z10], x.w.cell? ⟨B, 12, none⟩ = some (.int .i64 z10) := fun x => x.h.cell 12
  refine wp_region_calm (S := fun w' => ∃ x : Bx B [Value.int .i64 3, .int .i64 id, .int .i64 z0, .int .i64 z1, .int .i64 z2, .int .i64 z3, .int .i64 z4, .int .i64 z5, .int .i64 z6, .int .i64 z7, .int .i64 z8, .int .i64 z9, .int .i64 z10], w' = x.w) [(0, false), (1, false), (2, false), (4, false), (5, false), (6, false), (3, true), (7, true), (8, false), (9, false)] (by kernel_rfl) (by kernel_rfl) rfl (by kernel_rfl) ⟨⟨W.drew, HQ.out.drew⟩, rfl⟩ ?_
  have HT0 : Hid (Tb W.drew g l past) := HT.out.keep rfl
  have HR0 : Hid (Rf W.drew r l (past + 1)) := HR.out.keep fun _ _ _ => rfl
  have HQ0 : Hid (Blk W.drew B [.int .i64 3, .int .i64 id, .int .i64 z0, .int .i64 z1, .int .i64 z2, .int .i64 z3, .int .i64 z4, .int .i64 z5, .int .i64 z6, .int .i64 z7, .int .i64 z8, .int .i64 z9, .int .i64 z10] 34) := HQ.out.drew
  have HB0' : Hid (Below g w W.drew) := Below.drewN HB0.out 1
  have HNB0 : Hid (∀ v n, Blk W.drew r [v, n] 38 → v.ownBlock ≠ some B) := HNB.out
  obtain ⟨U, hU⟩ : ∃ U, U = W.drew := ⟨_, rfl⟩
  rw [← hU] at HT0 HR0 HQ0 HB0' HNB0 ⊢
  clear hU HT HR HQ HB0 HNB
  have HT := HT0
  have HR := HR0
  have HQ := HQ0
  have HB0 := HB0'
  have HNB := HNB0
  clear HT0 HR0 HQ0 HB0' HNB0
  iterate 6 (refine plan_take rfl (fun K hK => ?_); go_simp; refine ⟨_, fun _ => rfl, hK _ ?_⟩; clear hK K)
  refine plan_turn rfl (fun K hK => ?_)
  go_simp
  refine Calls.mono (H19.out _ HT.out) ?_
  rintro e w1 ⟨rfl, hb⟩
  have HT1 := hid (HT.out.below hb HT.out.lt)
  have HR1 := hid (HR.out.below hb)
  have HQ1 := hid (HQ.out.below hb HQ.out.lt)
  have HB1 : Hid (Below g w w1) := HB0.out.trans (hb.mono (Nat.le_of_lt HT.out.lt))
  have hrr : w1.heap[r]? = U.heap[r]? := hb.block r HR.out.lt
  clear hb
  have HNB1 : Hid (∀ v n, Blk w1 r [v, n] 38 → v.ownBlock ≠ some B) := fun v n hb => HNB.out v n (by unfold Blk at *; rw [← hrr]; exact hb)
  clear hrr
  refine hK _ _ ⟨⟨w1, HQ1.out⟩, rfl⟩ ?_
  clear hK K
  refine plan_turn rfl (fun K hK => ?_)
  go_simp
  refine Calls.mono (H23.out _ HR1.out) ?_
  rintro e w2 ⟨rfl, hb⟩
  have HR2 := hid (HR1.out.below hb)
  have HT2 := hid (HT1.out.below hb HT1.out.lt)
  have HB2 := hid (HB1.out.trans (hb.mono (Nat.le_of_lt HT1.out.lt)))
  have HQ2 := hid (HQ1.out.below hb HQ1.out.lt)
  clear hb
  refine hK _ _ ⟨⟨w2, HQ2.out⟩, rfl⟩ ?_
  clear hK K
  iterate 2 (refine plan_take rfl (fun K hK => ?_); go_simp; refine ⟨_, fun _ => rfl, hK _ ?_⟩; clear hK K)
  refine plan_done ⟨rfl, ?_⟩
  clear n0 n1 n2 n3 n4 n5 n6 n7 n8 n9 n10 n11 n12
  go_wp2
  go_ret
  exact ⟨rfl, l, past, HP.out.1, by omega, HT2.out, HR2.out, HB2.out⟩
set_option maxRecDepth 20000 in
set_option maxHeartbeats 8000000 in
theorem step3 (g r : Nat) (l : List (List Int)) (past id : Int) (z0 z1 z2 z3 z4 z5 z6 z7 z8 z9 z10 : Int) (w : World) (hT : Tb w g l past) (hR : Rf w r l (past + 1)) (hgr : g < r) (hp : 0 ≤ past ∧ past < 1000) (i : Nat) (hf : fnd l z0 0 = (i : Int)) (hi : i < l.length) : Calls Try.prog 10 #[P g, P r, .agg #[.int .i64 3, .int .i64 id, .int .i64 z0, .int .i64 z1, .int .i64 z2, .int .i64 z3, .int .i64 z4, .int .i64 z5, .int .i64 z6, .int .i64 z7, .int .i64 z8, .int .i64 z9, .int .i64 z10]] w fun e w' => OutStep w g r past e w' := by
  have hn := hT.few
  obtain ⟨W, hW⟩ : ∃ W, W = w.alloc (.cells #[Value.int .i64 3, .int .i64 id, .int .i64 z0, .int .i64 z1, .int .i64 z2, .int .i64 z3, .int .i64 z4, .int .i64 z5, .int .i64 z6, .int .i64 z7, .int .i64 z8, .int .i64 z9, .int .i64 z10] 34) := ⟨_, rfl⟩
  obtain ⟨B, hB⟩ : ∃ B, B = w.heap.size := ⟨_, rfl⟩
  have HBW : Hid (Below w.heap.size w W) := by rw [hW]; exact (Below.refl _ _).alloc (Nat.le_refl _) _
  have HQ : Hid (Blk W B [.int .i64 3, .int .i64 id, .int .i64 z0, .int .i64 z1, .int .i64 z2, .int .i64 z3, .int .i64 z4, .int .i64 z5, .int .i64 z6, .int .i64 z7, .int .i64 z8, .int .i64 z9, .int .i64 z10] 34) := by rw [hW, hB]; exact Blk.new _ _ _
  have HT : Hid (Tb W g l past) := hT.below HBW.out hT.lt
  have HR : Hid (Rf W r l (past + 1)) := hR.below HBW.out
  have HGR := hid hgr
  have HRB : Hid (r < B) := by rw [hB]; exact hR.lt
  have HGS : Hid (g ≤ w.heap.size) := Nat.le_of_lt hT.lt
  have HP := hid hp
  have HB0 : Hid (Below g w W) := HBW.out.mono HGS.out
  have HNB : Hid (∀ v n, Blk W r [v, n] 38 → v.ownBlock ≠ some B) := fun v n hb e => by
    obtain ⟨v', h1, h2⟩ := hR
    have h3 := Blk.inj (h1.below HBW.out h1.lt) hb
    simp at h3
    rw [← h3.1] at e
    have := (h2.block B e).2
    omega
  have H19 : Hid (∀ w0, Tb w0 g l past → Calls Try.prog 19 #[P g, E [z0, z1, z2, z3, z4, z5, z6, z7, z8, z9, z10]] w0 fun e w' => OutSet w0 g (l.set i [z0, z1, z2, z3, z4, z5, z6, z7, z8, z9, z10]) past e w') := fun w0 h => set_any g l past [z0, z1, z2, z3, z4, z5, z6, z7, z8, z9, z10] rfl i w0 h hf hi
  have H23 : Hid (∀ w1, Rf w1 r l (past + 1) → Calls Try.prog 23 #[P r, E [z0, z1, z2, z3, z4, z5, z6, z7, z8, z9, z10]] w1 fun e w' => OutRSet w1 r (l.set i [z0, z1, z2, z3, z4, z5, z6, z7, z8, z9, z10]) (past + 1) e w') := fun w1 h => rset_any r l (past + 1) [z0, z1, z2, z3, z4, z5, z6, z7, z8, z9, z10] rfl i w1 h (by omega) hf hi
  clear hf hi
  unfold OutStep
  unfold OutSet OutRSet P at *
  try unfold E at *
  try simp only [List.map_cons, List.map_nil, I] at *
  clear hT hR hgr hp
  go_enter Try.func10, Try.ntmps10
  go_upto_region 1 with fail
  rw [← hW, ← hB]
  clear hW hB HBW
  have q0 : W.cell? ⟨B, 0, none⟩ = some (.int .i64 3) := HQ.out.cell 0
  have q1 : W.cell? ⟨B, 1, none⟩ = some (.int .i64 id) := HQ.out.cell 1
  have q2 : W.cell? ⟨B, 2, none⟩ = some (.int .i64 z0) := HQ.out.cell 2
  have q3 : W.cell? ⟨B, 3, none⟩ = some (.int .i64 z1) := HQ.out.cell 3
  have q4 : W.cell? ⟨B, 4, none⟩ = some (.int .i64 z2) := HQ.out.cell 4
  have q5 : W.cell? ⟨B, 5, none⟩ = some (.int .i64 z3) := HQ.out.cell 5
  have q6 : W.cell? ⟨B, 6, none⟩ = some (.int .i64 z4) := HQ.out.cell 6
  have q7 : W.cell? ⟨B, 7, none⟩ = some (.int .i64 z5) := HQ.out.cell 7
  have q8 : W.cell? ⟨B, 8, none⟩ = some (.int .i64 z6) := HQ.out.cell 8
  have q9 : W.cell? ⟨B, 9, none⟩ = some (.int .i64 z7) := HQ.out.cell 9
  have q10 : W.cell? ⟨B, 10, none⟩ = some (.int .i64 z8) := HQ.out.cell 10
  have q11 : W.cell? ⟨B, 11, none⟩ = some (.int .i64 z9) := HQ.out.cell 11
  have q12 : W.cell? ⟨B, 12, none⟩ = some (.int .i64 z10) := HQ.out.cell 12
  go_upto_region 11 with fail
  clear q0 q1 q2 q3 q4 q5 q6 q7 q8 q9 q10 q11 q12
  have n0 : ∀ x : Bx B [Value.int .i64 3, .int .i64 id, .int .i64 z0, .int .i64 z1, .int .i64 z2, .int .i64 z3, .int .i64 z4, .int .i64 z5, .int .i64 z6, .int .i64 z7, .int .i64 z8, .int .i64 z9, .int .i64 z10], x.w.cell? ⟨B, 0, none⟩ = some (.int .i64 3) := fun x => x.h.cell 0
  have n1 : ∀ x : Bx B [Value.int .i64 3, .int .i64 id, .int .i64 z0, .int .i64 z1, .int .i64 z2, .int .i64 z3, .int .i64 z4, .int .i64 z5, .int .i64 z6, .int .i64 z7, .int .i64 z8, .int .i64 z9, .int .i64 z10], x.w.cell? ⟨B, 1, none⟩ = some (.int .i64 id) := fun x => x.h.cell 1
  have n2 : ∀ x : Bx B [Value.int .i64 3, .int .i64 id, .int .i64 z0, .int .i64 z1, .int .i64 z2, .int .i64 z3, .int .i64 z4, .int .i64 z5, .int .i64 z6, .int .i64 z7, .int .i64 z8, .int .i64 z9, .int .i64 z10], x.w.cell? ⟨B, 2, none⟩ = some (.int .i64 z0) := fun x => x.h.cell 2
  have n3 : ∀ x : Bx B [Value.int .i64 3, .int .i64 id, .int .i64 z0, .int .i64 z1, .int .i64 z2, .int .i64 z3, .int .i64 z4, .int .i64 z5, .int .i64 z6, .int .i64 z7, .int .i64 z8, .int .i64 z9, .int .i64 z10], x.w.cell? ⟨B, 3, none⟩ = some (.int .i64 z1) := fun x => x.h.cell 3
  have n4 : ∀ x : Bx B [Value.int .i64 3, .int .i64 id, .int .i64 z0, .int .i64 z1, .int .i64 z2, .int .i64 z3, .int .i64 z4, .int .i64 z5, .int .i64 z6, .int .i64 z7, .int .i64 z8, .int .i64 z9, .int .i64 z10], x.w.cell? ⟨B, 4, none⟩ = some (.int .i64 z2) := fun x => x.h.cell 4
  have n5 : ∀ x : Bx B [Value.int .i64 3, .int .i64 id, .int .i64 z0, .int .i64 z1, .int .i64 z2, .int .i64 z3, .int .i64 z4, .int .i64 z5, .int .i64 z6, .int .i64 z7, .int .i64 z8, .int .i64 z9, .int .i64 z10], x.w.cell? ⟨B, 5, none⟩ = some (.int .i64 z3) := fun x => x.h.cell 5
  have n6 : ∀ x : Bx B [Value.int .i64 3, .int .i64 id, .int .i64 z0, .int .i64 z1, .int .i64 z2, .int .i64 z3, .int .i64 z4, .int .i64 z5, .int .i64 z6, .int .i64 z7, .int .i64 z8, .int .i64 z9, .int .i64 z10], x.w.cell? ⟨B, 6, none⟩ = some (.int .i64 z4) := fun x => x.h.cell 6
  have n7 : ∀ x : Bx B [Value.int .i64 3, .int .i64 id, .int .i64 z0, .int .i64 z1, .int .i64 z2, .int .i64 z3, .int .i64 z4, .int .i64 z5, .int .i64 z6, .int .i64 z7, .int .i64 z8, .int .i64 z9, .int .i64 z10], x.w.cell? ⟨B, 7, none⟩ = some (.int .i64 z5) := fun x => x.h.cell 7
  have n8 : ∀ x : Bx B [Value.int .i64 3, .int .i64 id, .int .i64 z0, .int .i64 z1, .int .i64 z2, .int .i64 z3, .int .i64 z4, .int .i64 z5, .int .i64 z6, .int .i64 z7, .int .i64 z8, .int .i64 z9, .int .i64 z10], x.w.cell? ⟨B, 8, none⟩ = some (.int .i64 z6) := fun x => x.h.cell 8
  have n9 : ∀ x : Bx B [Value.int .i64 3, .int .i64 id, .int .i64 z0, .int .i64 z1, .int .i64 z2, .int .i64 z3, .int .i64 z4, .int .i64 z5, .int .i64 z6, .int .i64 z7, .int .i64 z8, .int .i64 z9, .int .i64 z10], x.w.cell? ⟨B, 9, none⟩ = some (.int .i64 z7) := fun x => x.h.cell 9
  have n10 : ∀ x : Bx B [Value.int .i64 3, .int .i64 id, .int .i64 z0, .int .i64 z1, .int .i64 z2, .int .i64 z3, .int .i64 z4, .int .i64 z5, .int .i64 z6, .int .i64 z7, .int .i64 z8, .int .i64 z9, .int .i64 z10], x.w.cell? ⟨B, 10, none⟩ = some (.int .i64 z8) := fun x => x.h.cell 10
  have n11 : ∀ x : Bx B [Value.int .i64 3, .int .i64 id, .int .i64 z0, .int .i64 z1, .int .i64 z2, .int .i64 z3, .int .i64 z4, .int .i64 z5, .int .i64 z6, .int .i64 z7, .int .i64 z8, .int .i64 z9, .int .i64 z10], x.w.cell? ⟨B, 11, none⟩ = some (.int .i64 z9) := fun x => x.h.cell 11
  have n12 : ∀ x : Bx B [Value.int .i64 3, .int .i64 id, .int .i64 z0, .int .i64 z1, .int .i64 z2, .int .i64 z3, .int .i64 z4, .int .i64 z5, .int .i64 z6, .int .i64 z7, .int .i64 z8, .int .i64 z9, .int .i64 z10], x.w.cell? ⟨B, 12, none⟩ = some (.int .i64 z10) := fun x => x.h.cell 12
  refine wp_region_calm (S := fun w' => ∃ x : Bx B [Value.int .i64 3, .int .i64 id, .int .i64 z0, .int .i64 z1, .int .i64 z2, .int .i64 z3, .int .i64 z4, .int .i64 z5, .int .i64 z6, .int .i64 z7, .int .i64 z8, .int .i64 z9, .int .i64 z10], w' = x.w) [(0, false), (1, false), (2, false), (4, false), (5, false), (6, false), (3, true), (7, true), (8, false), (9, false)] (by kernel_rfl) (by kernel_rfl) rfl (by kernel_rfl) ⟨⟨W.drew, HQ.out.drew⟩, rfl⟩ ?_
  have HT0 : Hid (Tb W.drew g l past) := HT.out.keep rfl
  have HR0 : Hid (Rf W.drew r l (past + 1)) := HR.out.keep fun _ _ _ => rfl
  have HQ0 : Hid (Blk W.drew B [.int .i64 3, .int .i64 id, .int .i64 z0, .int .i64 z1, .int .i64 z2, .int .i64 z3, .int .i64 z4, .int .i64 z5, .int .i64 z6, .int .i64 z7, .int .i64 z8, .int .i64 z9, .int .i64 z10] 34) := HQ.out.drew
  have HB0' : Hid (Below g w W.drew) := Below.drewN HB0.out 1
  have HNB0 : Hid (∀ v n, Blk W.drew r [v, n] 38 → v.ownBlock ≠ some B) := HNB.out
  obtain ⟨U, hU⟩ : ∃ U, U = W.drew := ⟨_, rfl⟩
  rw [← hU] at HT0 HR0 HQ0 HB0' HNB0 ⊢
  clear hU HT HR HQ HB0 HNB
  have HT := HT0
  have HR := HR0
  have HQ := HQ0
  have HB0 := HB0'
  have HNB := HNB0
  clear HT0 HR0 HQ0 HB0' HNB0
  iterate 6 (refine plan_take rfl (fun K hK => ?_); go_simp; refine ⟨_, fun _ => rfl, hK _ ?_⟩; clear hK K)
  refine plan_turn rfl (fun K hK => ?_)
  go_simp
  refine Calls.mono (H19.out _ HT.out) ?_
  rintro e w1 ⟨rfl, ht, ho⟩
  have HT1 := hid ht
  have HR1 := hid (ho.rf HR.out HGR.out)
  have HQ1 := hid (ho.blk HQ.out (show B ≠ g by have := HGR.out; have := HRB.out; omega))
  have HB1 : Hid (Below g w w1) := Only.below HB0.out ho (Nat.le_refl _) (Nat.le_of_lt HT.out.lt)
  have hrr : w1.heap[r]? = U.heap[r]? := ho.block r (by have := HGR.out; omega) HR.out.lt
  clear ht ho
  have HNB1 : Hid (∀ v n, Blk w1 r [v, n] 38 → v.ownBlock ≠ some B) := fun v n hb => HNB.out v n (by unfold Blk at *; rw [← hrr]; exact hb)
  clear hrr
  refine hK _ _ ⟨⟨w1, HQ1.out⟩, rfl⟩ ?_
  clear hK K
  refine plan_turn rfl (fun K hK => ?_)
  go_simp
  refine Calls.mono (H23.out _ HR1.out) ?_
  rintro e w2 ⟨rfl, hr, hb, hk⟩
  have HR2 := hid hr
  have HT2 := hid (HT1.out.below hb HGR.out)
  have HB2 := hid (HB1.out.trans (hb.mono (Nat.le_of_lt HGR.out)))
  have HQ2 : Hid (Blk w2 B [.int .i64 3, .int .i64 id, .int .i64 z0, .int .i64 z1, .int .i64 z2, .int .i64 z3, .int .i64 z4, .int .i64 z5, .int .i64 z6, .int .i64 z7, .int .i64 z8, .int .i64 z9, .int .i64 z10] 34) := rf_blk HR1.out hk HQ1.out HRB.out HNB1.out
  clear hr hb hk
  refine hK _ _ ⟨⟨w2, HQ2.out⟩, rfl⟩ ?_
  clear hK K
  iterate 2 (refine plan_take rfl (fun K hK => ?_); go_simp; refine ⟨_, fun _ => rfl, hK _ ?_⟩; clear hK K)
  refine plan_done ⟨rfl, ?_⟩
  clear n0 n1 n2 n3 n4 n5 n6 n7 n8 n9 n10 n11 n12
  go_wp2
  go_ret
  exact ⟨rfl, _, past, HP.out.1, by omega, HT2.out, HR2.out, HB2.out⟩
set_option maxRecDepth 20000 in
set_option maxHeartbeats 8000000 in
theorem step4_none (g r : Nat) (l : List (List Int)) (past id : Int) (z0 z1 z2 z3 z4 z5 z6 z7 z8 z9 z10 : Int) (w : World) (hT : Tb w g l past) (hR : Rf w r l (past + 1)) (hgr : g < r) (hp : 0 ≤ past ∧ past < 1000) (hf : fnd l id 0 = -1) : Calls Try.prog 10 #[P g, P r, .agg #[.int .i64 4, .int .i64 id, .int .i64 z0, .int .i64 z1, .int .i64 z2, .int .i64 z3, .int .i64 z4, .int .i64 z5, .int .i64 z6, .int .i64 z7, .int .i64 z8, .int .i64 z9, .int .i64 z10]] w fun e w' => OutStep w g r past e w' := by
  have hn := hT.few
  obtain ⟨W, hW⟩ : ∃ W, W = w.alloc (.cells #[Value.int .i64 4, .int .i64 id, .int .i64 z0, .int .i64 z1, .int .i64 z2, .int .i64 z3, .int .i64 z4, .int .i64 z5, .int .i64 z6, .int .i64 z7, .int .i64 z8, .int .i64 z9, .int .i64 z10] 34) := ⟨_, rfl⟩
  obtain ⟨B, hB⟩ : ∃ B, B = w.heap.size := ⟨_, rfl⟩
  have HBW : Hid (Below w.heap.size w W) := by rw [hW]; exact (Below.refl _ _).alloc (Nat.le_refl _) _
  have HQ : Hid (Blk W B [.int .i64 4, .int .i64 id, .int .i64 z0, .int .i64 z1, .int .i64 z2, .int .i64 z3, .int .i64 z4, .int .i64 z5, .int .i64 z6, .int .i64 z7, .int .i64 z8, .int .i64 z9, .int .i64 z10] 34) := by rw [hW, hB]; exact Blk.new _ _ _
  have HT : Hid (Tb W g l past) := hT.below HBW.out hT.lt
  have HR : Hid (Rf W r l (past + 1)) := hR.below HBW.out
  have HGR := hid hgr
  have HRB : Hid (r < B) := by rw [hB]; exact hR.lt
  have HGS : Hid (g ≤ w.heap.size) := Nat.le_of_lt hT.lt
  have HP := hid hp
  have HB0 : Hid (Below g w W) := HBW.out.mono HGS.out
  have HNB : Hid (∀ v n, Blk W r [v, n] 38 → v.ownBlock ≠ some B) := fun v n hb e => by
    obtain ⟨v', h1, h2⟩ := hR
    have h3 := Blk.inj (h1.below HBW.out h1.lt) hb
    simp at h3
    rw [← h3.1] at e
    have := (h2.block B e).2
    omega
  have H15 : Hid (∀ w0, Tb w0 g l past → Calls Try.prog 15 #[P g, .int .i64 id] w0 fun e w' => Out w0 (.int .i64 3) e w') := fun w0 h => remNone_any g l past id w0 h hf
  have H24 : Hid (∀ w1, Rf w1 r l (past + 1) → Calls Try.prog 24 #[P r, .int .i64 id] w1 fun e w' => Out w1 (.int .i64 3) e w') := fun w1 h => (rremNone_any r l (past + 1) id w1 h (by omega) hf).mono fun e w' h => ⟨h.1, by rw [h.2]; exact Below.refl _ _⟩
  clear hf
  unfold OutStep
  unfold Out P at *
  try unfold E at *
  try simp only [List.map_cons, List.map_nil, I] at *
  clear hT hR hgr hp
  go_enter Try.func10, Try.ntmps10
  go_upto_region 1 with fail
  rw [← hW, ← hB]
  clear hW hB HBW
  have q0 : W.cell? ⟨B, 0, none⟩ = some (.int .i64 4) := HQ.out.cell 0
  have q1 : W.cell? ⟨B, 1, none⟩ = some (.int .i64 id) := HQ.out.cell 1
  have q2 : W.cell? ⟨B, 2, none⟩ = some (.int .i64 z0) := HQ.out.cell 2
  have q3 : W.cell? ⟨B, 3, none⟩ = some (.int .i64 z1) := HQ.out.cell 3
  have q4 : W.cell? ⟨B, 4, none⟩ = some (.int .i64 z2) := HQ.out.cell 4
  have q5 : W.cell? ⟨B, 5, none⟩ = some (.int .i64 z3) := HQ.out.cell 5
  have q6 : W.cell? ⟨B, 6, none⟩ = some (.int .i64 z4) := HQ.out.cell 6
  have q7 : W.cell? ⟨B, 7, none⟩ = some (.int .i64 z5) := HQ.out.cell 7
  have q8 : W.cell? ⟨B, 8, none⟩ = some (.int .i64 z6) := HQ.out.cell 8
  have q9 : W.cell? ⟨B, 9, none⟩ = some (.int .i64 z7) := HQ.out.cell 9
  have q10 : W.cell? ⟨B, 10, none⟩ = some (.int .i64 z8) := HQ.out.cell 10
  have q11 : W.cell? ⟨B, 11, none⟩ = some (.int .i64 z9) := HQ.out.cell 11
  have q12 : W.cell? ⟨B, 12, none⟩ = some (.int .i64 z10) := HQ.out.cell 12
  go_upto_region 13 with fail
  clear q0 q1 q2 q3 q4 q5 q6 q7 q8 q9 q10 q11 q12
  have n0 : ∀ x : Bx B [Value.int .i64 4, .int .i64 id, .int .i64 z0, .int .i64 z1, .int .i64 z2, .int .i64 z3, .int .i64 z4, .int .i64 z5, .int .i64 z6, .int .i64 z7, .int .i64 z8, .int .i64 z9, .int .i64 z10], x.w.cell? ⟨B, 0, none⟩ = some (.int .i64 4) := fun x => x.h.cell 0
  have n1 : ∀ x : Bx B [Value.int .i64 4, .int .i64 id, .int .i64 z0, .int .i64 z1, .int .i64 z2, .int .i64 z3, .int .i64 z4, .int .i64 z5, .int .i64 z6, .int .i64 z7, .int .i64 z8, .int .i64 z9, .int .i64 z10], x.w.cell? ⟨B, 1, none⟩ = some (.int .i64 id) := fun x => x.h.cell 1
  have n2 : ∀ x : Bx B [Value.int .i64 4, .int .i64 id, .int .i64 z0, .int .i64 z1, .int .i64 z2, .int .i64 z3, .int .i64 z4, .int .i64 z5, .int .i64 z6, .int .i64 z7, .int .i64 z8, .int .i64 z9, .int .i64 z10], x.w.cell? ⟨B, 2, none⟩ = some (.int .i64 z0) := fun x => x.h.cell 2
  have n3 : ∀ x : Bx B [Value.int .i64 4, .int .i64 id, .int .i64 z0, .int .i64 z1, .int .i64 z2, .int .i64 z3, .int .i64 z4, .int .i64 z5, .int .i64 z6, .int .i64 z7, .int .i64 z8, .int .i64 z9, .int .i64 z10], x.w.cell? ⟨B, 3, none⟩ = some (.int .i64 z1) := fun x => x.h.cell 3
  have n4 : ∀ x : Bx B [Value.int .i64 4, .int .i64 id, .int .i64 z0, .int .i64 z1, .int .i64 z2, .int .i64 z3, .int .i64 z4, .int .i64 z5, .int .i64 z6, .int .i64 z7, .int .i64 z8, .int .i64 z9, .int .i64 z10], x.w.cell? ⟨B, 4, none⟩ = some (.int .i64 z2) := fun x => x.h.cell 4
  have n5 : ∀ x : Bx B [Value.int .i64 4, .int .i64 id, .int .i64 z0, .int .i64 z1, .int .i64 z2, .int .i64 z3, .int .i64 z4, .int .i64 z5, .int .i64 z6, .int .i64 z7, .int .i64 z8, .int .i64 z9, .int .i64 z10], x.w.cell? ⟨B, 5, none⟩ = some (.int .i64 z3) := fun x => x.h.cell 5
  have n6 : ∀ x : Bx B [Value.int .i64 4, .int .i64 id, .int .i64 z0, .int .i64 z1, .int .i64 z2, .int .i64 z3, .int .i64 z4, .int .i64 z5, .int .i64 z6, .int .i64 z7, .int .i64 z8, .int .i64 z9, .int .i64 z10], x.w.cell? ⟨B, 6, none⟩ = some (.int .i64 z4) := fun x => x.h.cell 6
  have n7 : ∀ x : Bx B [Value.int .i64 4, .int .i64 id, .int .i64 z0, .int .i64 z1, .int .i64 z2, .int .i64 z3, .int .i64 z4, .int .i64 z5, .int .i64 z6, .int .i64 z7, .int .i64 z8, .int .i64 z9, .int .i64 z10], x.w.cell? ⟨B, 7, none⟩ = some (.int .i64 z5) := fun x => x.h.cell 7
  have n8 : ∀ x : Bx B [Value.int .i64 4, .int .i64 id, .int .i64 z0, .int .i64 z1, .int .i64 z2, .int .i64 z3, .int .i64 z4, .int .i64 z5, .int .i64 z6, .int .i64 z7, .int .i64 z8, .int .i64 z9, .int .i64 z10], x.w.cell? ⟨B, 8, none⟩ = some (.int .i64 z6) := fun x => x.h.cell 8
  have n9 : ∀ x : Bx B [Value.int .i64 4, .int .i64 id, .int .i64 z0, .int .i64 z1, .int .i64 z2, .int .i64 z3, .int .i64 z4, .int .i64 z5, .int .i64 z6, .int .i64 z7, .int .i64 z8, .int .i64 z9, .int .i64 z10], x.w.cell? ⟨B, 9, none⟩ = some (.int .i64 z7) := fun x => x.h.cell 9
  have n10 : ∀ x : Bx B [Value.int .i64 4, .int .i64 id, .int .i64 z0, .int .i64 z1, .int .i64 z2, .int .i64 z3, .int .i64 z4, .int .i64 z5, .int .i64 z6, .int .i64 z7, .int .i64 z8, .int .i64 z9, .int .i64 z10], x.w.cell? ⟨B, 10, none⟩ = some (.int .i64 z8) := fun x => x.h.cell 10
  have n11 : ∀ x : Bx B [Value.int .i64 4, .int .i64 id, .int .i64 z0, .int .i64 z1, .int .i64 z2, .int .i64 z3, .int .i64 z4, .int .i64 z5, .int .i64 z6, .int .i64 z7, .int .i64 z8, .int .i64 z9, .int .i64 z10], x.w.cell? ⟨B, 11, none⟩ = some (.int .i64 z9) := fun x => x.h.cell 11
  have n12 : ∀ x : Bx B [Value.int .i64 4, .int .i64 id, .int .i64 z0, .int .i64 z1, .int .i64 z2, .int .i64 z3, .int .i64 z4, .int .i64 z5, .int .i64 z6, .int .i64 z7, .int .i64 z8, .int .i64 z9, .int .i64 z10], x.w.cell? ⟨B, 12, none⟩ = some (.int .i64 z10) := fun x => x.h.cell 12
  refine wp_region_calm (S := fun w' => ∃ x : Bx B [Value.int .i64 4, .int .i64 id, .int .i64 z0, .int .i64 z1, .int .i64 z2, .int .i64 z3, .int .i64 z4, .int .i64 z5, .int .i64 z6, .int .i64 z7, .int .i64 z8, .int .i64 z9, .int .i64 z10], w' = x.w) [(0, false), (1, false), (2, false), (4, false), (5, false), (6, false), (3, true), (7, true), (8, false), (9, false)] (by kernel_rfl) (by kernel_rfl) rfl (by kernel_rfl) ⟨⟨W.drew, HQ.out.drew⟩, rfl⟩ ?_
  have HT0 : Hid (Tb W.drew g l past) := HT.out.keep rfl
  have HR0 : Hid (Rf W.drew r l (past + 1)) := HR.out.keep fun _ _ _ => rfl
  have HQ0 : Hid (Blk W.drew B [.int .i64 4, .int .i64 id, .int .i64 z0, .int .i64 z1, .int .i64 z2, .int .i64 z3, .int .i64 z4, .int .i64 z5, .int .i64 z6, .int .i64 z7, .int .i64 z8, .int .i64 z9, .int .i64 z10] 34) := HQ.out.drew
  have HB0' : Hid (Below g w W.drew) := Below.drewN HB0.out 1
  have HNB0 : Hid (∀ v n, Blk W.drew r [v, n] 38 → v.ownBlock ≠ some B) := HNB.out
  obtain ⟨U, hU⟩ : ∃ U, U = W.drew := ⟨_, rfl⟩
  rw [← hU] at HT0 HR0 HQ0 HB0' HNB0 ⊢
  clear hU HT HR HQ HB0 HNB
  have HT := HT0
  have HR := HR0
  have HQ := HQ0
  have HB0 := HB0'
  have HNB := HNB0
  clear HT0 HR0 HQ0 HB0' HNB0
  iterate 6 (refine plan_take rfl (fun K hK => ?_); go_simp; refine ⟨_, fun _ => rfl, hK _ ?_⟩; clear hK K)
  refine plan_turn rfl (fun K hK => ?_)
  go_simp
  refine Calls.mono (H15.out _ HT.out) ?_
  rintro e w1 ⟨rfl, hb⟩
  have HT1 := hid (HT.out.below hb HT.out.lt)
  have HR1 := hid (HR.out.below hb)
  have HQ1 := hid (HQ.out.below hb HQ.out.lt)
  have HB1 : Hid (Below g w w1) := HB0.out.trans (hb.mono (Nat.le_of_lt HT.out.lt))
  have hrr : w1.heap[r]? = U.heap[r]? := hb.block r HR.out.lt
  clear hb
  have HNB1 : Hid (∀ v n, Blk w1 r [v, n] 38 → v.ownBlock ≠ some B) := fun v n hb => HNB.out v n (by unfold Blk at *; rw [← hrr]; exact hb)
  clear hrr
  refine hK _ _ ⟨⟨w1, HQ1.out⟩, rfl⟩ ?_
  clear hK K
  refine plan_turn rfl (fun K hK => ?_)
  go_simp
  refine Calls.mono (H24.out _ HR1.out) ?_
  rintro e w2 ⟨rfl, hb⟩
  have HR2 := hid (HR1.out.below hb)
  have HT2 := hid (HT1.out.below hb HT1.out.lt)
  have HB2 := hid (HB1.out.trans (hb.mono (Nat.le_of_lt HT1.out.lt)))
  have HQ2 := hid (HQ1.out.below hb HQ1.out.lt)
  clear hb
  refine hK _ _ ⟨⟨w2, HQ2.out⟩, rfl⟩ ?_
  clear hK K
  iterate 2 (refine plan_take rfl (fun K hK => ?_); go_simp; refine ⟨_, fun _ => rfl, hK _ ?_⟩; clear hK K)
  refine plan_done ⟨rfl, ?_⟩
  clear n0 n1 n2 n3 n4 n5 n6 n7 n8 n9 n10 n11 n12
  go_wp2
  go_ret
  exact ⟨rfl, l, past, HP.out.1, by omega, HT2.out, HR2.out, HB2.out⟩
set_option maxRecDepth 20000 in
set_option maxHeartbeats 8000000 in
theorem step4 (g r : Nat) (l : List (List Int)) (past id : Int) (z0 z1 z2 z3 z4 z5 z6 z7 z8 z9 z10 : Int) (w : World) (hT : Tb w g l past) (hR : Rf w r l (past + 1)) (hgr : g < r) (hp : 0 ≤ past ∧ past < 1000) (i : Nat) (hf : fnd l id 0 = (i : Int)) (hi : i < l.length) : Calls Try.prog 10 #[P g, P r, .agg #[.int .i64 4, .int .i64 id, .int .i64 z0, .int .i64 z1, .int .i64 z2, .int .i64 z3, .int .i64 z4, .int .i64 z5, .int .i64 z6, .int .i64 z7, .int .i64 z8, .int .i64 z9, .int .i64 z10]] w fun e w' => OutStep w g r past e w' := by
  have hn := hT.few
  obtain ⟨W, hW⟩ : ∃ W, W = w.alloc (.cells #[Value.int .i64 4, .int .i64 id, .int .i64 z0, .int .i64 z1, .int .i64 z2, .int .i64 z3, .int .i64 z4, .int .i64 z5, .int .i64 z6, .int .i64 z7, .int .i64 z8, .int .i64 z9, .int .i64 z10] 34) := ⟨_, rfl⟩
  obtain ⟨B, hB⟩ : ∃ B, B = w.heap.size := ⟨_, rfl⟩
  have HBW : Hid (Below w.heap.size w W) := by rw [hW]; exact (Below.refl _ _).alloc (Nat.le_refl _) _
  have HQ : Hid (Blk W B [.int .i64 4, .int .i64 id, .int .i64 z0, .int .i64 z1, .int .i64 z2, .int .i64 z3, .int .i64 z4, .int .i64 z5, .int .i64 z6, .int .i64 z7, .int .i64 z8, .int .i64 z9, .int .i64 z10] 34) := by rw [hW, hB]; exact Blk.new _ _ _
  have HT : Hid (Tb W g l past) := hT.below HBW.out hT.lt
  have HR : Hid (Rf W r l (past + 1)) := hR.below HBW.out
  have HGR := hid hgr
  have HRB : Hid (r < B) := by rw [hB]; exact hR.lt
  have HGS : Hid (g ≤ w.heap.size) := Nat.le_of_lt hT.lt
  have HP := hid hp
  have HB0 : Hid (Below g w W) := HBW.out.mono HGS.out
  have HNB : Hid (∀ v n, Blk W r [v, n] 38 → v.ownBlock ≠ some B) := fun v n hb e => by
    obtain ⟨v', h1, h2⟩ := hR
    have h3 := Blk.inj (h1.below HBW.out h1.lt) hb
    simp at h3
    rw [← h3.1] at e
    have := (h2.block B e).2
    omega
  have H15 : Hid (∀ w0, Tb w0 g l past → Calls Try.prog 15 #[P g, .int .i64 id] w0 fun e w' => OutRem w0 g (l.eraseIdx i) past e w') := fun w0 h => rem_any g l past id i w0 h hf hi
  have H24 : Hid (∀ w1, Rf w1 r l (past + 1) → Calls Try.prog 24 #[P r, .int .i64 id] w1 fun e w' => OutRSet w1 r (l.eraseIdx i) (past + 1) e w') := fun w1 h => rrem_any r l (past + 1) id i w1 h (by omega) hf hi
  clear hf hi
  unfold OutStep
  unfold OutRem OutRSet P at *
  try unfold E at *
  try simp only [List.map_cons, List.map_nil, I] at *
  clear hT hR hgr hp
  go_enter Try.func10, Try.ntmps10
  go_upto_region 1 with fail
  rw [← hW, ← hB]
  clear hW hB HBW
  have q0 : W.cell? ⟨B, 0, none⟩ = some (.int .i64 4) := HQ.out.cell 0
  have q1 : W.cell? ⟨B, 1, none⟩ = some (.int .i64 id) := HQ.out.cell 1
  have q2 : W.cell? ⟨B, 2, none⟩ = some (.int .i64 z0) := HQ.out.cell 2
  have q3 : W.cell? ⟨B, 3, none⟩ = some (.int .i64 z1) := HQ.out.cell 3
  have q4 : W.cell? ⟨B, 4, none⟩ = some (.int .i64 z2) := HQ.out.cell 4
  have q5 : W.cell? ⟨B, 5, none⟩ = some (.int .i64 z3) := HQ.out.cell 5
  have q6 : W.cell? ⟨B, 6, none⟩ = some (.int .i64 z4) := HQ.out.cell 6
  have q7 : W.cell? ⟨B, 7, none⟩ = some (.int .i64 z5) := HQ.out.cell 7
  have q8 : W.cell? ⟨B, 8, none⟩ = some (.int .i64 z6) := HQ.out.cell 8
  have q9 : W.cell? ⟨B, 9, none⟩ = some (.int .i64 z7) := HQ.out.cell 9
  have q10 : W.cell? ⟨B, 10, none⟩ = some (.int .i64 z8) := HQ.out.cell 10
  have q11 : W.cell? ⟨B, 11, none⟩ = some (.int .i64 z9) := HQ.out.cell 11
  have q12 : W.cell? ⟨B, 12, none⟩ = some (.int .i64 z10) := HQ.out.cell 12
  go_upto_region 13 with fail
  clear q0 q1 q2 q3 q4 q5 q6 q7 q8 q9 q10 q11 q12
  have n0 : ∀ x : Bx B [Value.int .i64 4, .int .i64 id, .int .i64 z0, .int .i64 z1, .int .i64 z2, .int .i64 z3, .int .i64 z4, .int .i64 z5, .int .i64 z6, .int .i64 z7, .int .i64 z8, .int .i64 z9, .int .i64 z10], x.w.cell? ⟨B, 0, none⟩ = some (.int .i64 4) := fun x => x.h.cell 0
  have n1 : ∀ x : Bx B [Value.int .i64 4, .int .i64 id, .int .i64 z0, .int .i64 z1, .int .i64 z2, .int .i64 z3, .int .i64 z4, .int .i64 z5, .int .i64 z6, .int .i64 z7, .int .i64 z8, .int .i64 z9, .int .i64 z10], x.w.cell? ⟨B, 1, none⟩ = some (.int .i64 id) := fun x => x.h.cell 1
  have n2 : ∀ x : Bx B [Value.int .i64 4, .int .i64 id, .int .i64 z0, .int .i64 z1, .int .i64 z2, .int .i64 z3, .int .i64 z4, .int .i64 z5, .int .i64 z6, .int .i64 z7, .int .i64 z8, .int .i64 z9, .int .i64 z10], x.w.cell? ⟨B, 2, none⟩ = some (.int .i64 z0) := fun x => x.h.cell 2
  have n3 : ∀ x : Bx B [Value.int .i64 4, .int .i64 id, .int .i64 z0, .int .i64 z1, .int .i64 z2, .int .i64 z3, .int .i64 z4, .int .i64 z5, .int .i64 z6, .int .i64 z7, .int .i64 z8, .int .i64 z9, .int .i64 z10], x.w.cell? ⟨B, 3, none⟩ = some (.int .i64 z1) := fun x => x.h.cell 3
  have n4 : ∀ x : Bx B [Value.int .i64 4, .int .i64 id, .int .i64 z0, .int .i64 z1, .int .i64 z2, .int .i64 z3, .int .i64 z4, .int .i64 z5, .int .i64 z6, .int .i64 z7, .int .i64 z8, .int .i64 z9, .int .i64 z10], x.w.cell? ⟨B, 4, none⟩ = some (.int .i64 z2) := fun x => x.h.cell 4
  have n5 : ∀ x : Bx B [Value.int .i64 4, .int .i64 id, .int .i64 z0, .int .i64 z1, .int .i64 z2, .int .i64 z3, .int .i64 z4, .int .i64 z5, .int .i64 z6, .int .i64 z7, .int .i64 z8, .int .i64 z9, .int .i64 z10], x.w.cell? ⟨B, 5, none⟩ = some (.int .i64 z3) := fun x => x.h.cell 5
  have n6 : ∀ x : Bx B [Value.int .i64 4, .int .i64 id, .int .i64 z0, .int .i64 z1, .int .i64 z2, .int .i64 z3, .int .i64 z4, .int .i64 z5, .int .i64 z6, .int .i64 z7, .int .i64 z8, .int .i64 z9, .int .i64 z10], x.w.cell? ⟨B, 6, none⟩ = some (.int .i64 z4) := fun x => x.h.cell 6
  have n7 : ∀ x : Bx B [Value.int .i64 4, .int .i64 id, .int .i64 z0, .int .i64 z1, .int .i64 z2, .int .i64 z3, .int .i64 z4, .int .i64 z5, .int .i64 z6, .int .i64 z7, .int .i64 z8, .int .i64 z9, .int .i64 z10], x.w.cell? ⟨B, 7, none⟩ = some (.int .i64 z5) := fun x => x.h.cell 7
  have n8 : ∀ x : Bx B [Value.int .i64 4, .int .i64 id, .int .i64 z0, .int .i64 z1, .int .i64 z2, .int .i64 z3, .int .i64 z4, .int .i64 z5, .int .i64 z6, .int .i64 z7, .int .i64 z8, .int .i64 z9, .int .i64 z10], x.w.cell? ⟨B, 8, none⟩ = some (.int .i64 z6) := fun x => x.h.cell 8
  have n9 : ∀ x : Bx B [Value.int .i64 4, .int .i64 id, .int .i64 z0, .int .i64 z1, .int .i64 z2, .int .i64 z3, .int .i64 z4, .int .i64 z5, .int .i64 z6, .int .i64 z7, .int .i64 z8, .int .i64 z9, .int .i64 z10], x.w.cell? ⟨B, 9, none⟩ = some (.int .i64 z7) := fun x => x.h.cell 9
  have n10 : ∀ x : Bx B [Value.int .i64 4, .int .i64 id, .int .i64 z0, .int .i64 z1, .int .i64 z2, .int .i64 z3, .int .i64 z4, .int .i64 z5, .int .i64 z6, .int .i64 z7, .int .i64 z8, .int .i64 z9, .int .i64 z10], x.w.cell? ⟨B, 10, none⟩ = some (.int .i64 z8) := fun x => x.h.cell 10
  have n11 : ∀ x : Bx B [Value.int .i64 4, .int .i64 id, .int .i64 z0, .int .i64 z1, .int .i64 z2, .int .i64 z3, .int .i64 z4, .int .i64 z5, .int .i64 z6, .int .i64 z7, .int .i64 z8, .int .i64 z9, .int .i64 z10], x.w.cell? ⟨B, 11, none⟩ = some (.int .i64 z9) := fun x => x.h.cell 11
  have n12 : ∀ x : Bx B [Value.int .i64 4, .int .i64 id, .int .i64 z0, .int .i64 z1, .int .i64 z2, .int .i64 z3, .int .i64 z4, .int .i64 z5, .int .i64 z6, .int .i64 z7, .int .i64 z8, .int .i64 z9, .int .i64 z10], x.w.cell? ⟨B, 12, none⟩ = some (.int .i64 z10) := fun x => x.h.cell 12
  refine wp_region_calm (S := fun w' => ∃ x : Bx B [Value.int .i64 4, .int .i64 id, .int .i64 z0, .int .i64 z1, .int .i64 z2, .int .i64 z3, .int .i64 z4, .int .i64 z5, .int .i64 z6, .int .i64 z7, .int .i64 z8, .int .i64 z9, .int .i64 z10], w' = x.w) [(0, false), (1, false), (2, false), (4, false), (5, false), (6, false), (3, true), (7, true), (8, false), (9, false)] (by kernel_rfl) (by kernel_rfl) rfl (by kernel_rfl) ⟨⟨W.drew, HQ.out.drew⟩, rfl⟩ ?_
  have HT0 : Hid (Tb W.drew g l past) := HT.out.keep rfl
  have HR0 : Hid (Rf W.drew r l (past + 1)) := HR.out.keep fun _ _ _ => rfl
  have HQ0 : Hid (Blk W.drew B [.int .i64 4, .int .i64 id, .int .i64 z0, .int .i64 z1, .int .i64 z2, .int .i64 z3, .int .i64 z4, .int .i64 z5, .int .i64 z6, .int .i64 z7, .int .i64 z8, .int .i64 z9, .int .i64 z10] 34) := HQ.out.drew
  have HB0' : Hid (Below g w W.drew) := Below.drewN HB0.out 1
  have HNB0 : Hid (∀ v n, Blk W.drew r [v, n] 38 → v.ownBlock ≠ some B) := HNB.out
  obtain ⟨U, hU⟩ : ∃ U, U = W.drew := ⟨_, rfl⟩
  rw [← hU] at HT0 HR0 HQ0 HB0' HNB0 ⊢
  clear hU HT HR HQ HB0 HNB
  have HT := HT0
  have HR := HR0
  have HQ := HQ0
  have HB0 := HB0'
  have HNB := HNB0
  clear HT0 HR0 HQ0 HB0' HNB0
  iterate 6 (refine plan_take rfl (fun K hK => ?_); go_simp; refine ⟨_, fun _ => rfl, hK _ ?_⟩; clear hK K)
  refine plan_turn rfl (fun K hK => ?_)
  go_simp
  refine Calls.mono (H15.out _ HT.out) ?_
  rintro e w1 ⟨rfl, ht, ho⟩
  have HT1 := hid ht
  have HR1 := hid (ho.rf HR.out HGR.out)
  have HQ1 := hid (ho.blk HQ.out (show B ≠ g by have := HGR.out; have := HRB.out; omega))
  have HB1 : Hid (Below g w w1) := Only.below HB0.out ho (Nat.le_refl _) (Nat.le_of_lt HT.out.lt)
  have hrr : w1.heap[r]? = U.heap[r]? := ho.block r (by have := HGR.out; omega) HR.out.lt
  clear ht ho
  have HNB1 : Hid (∀ v n, Blk w1 r [v, n] 38 → v.ownBlock ≠ some B) := fun v n hb => HNB.out v n (by unfold Blk at *; rw [← hrr]; exact hb)
  clear hrr
  refine hK _ _ ⟨⟨w1, HQ1.out⟩, rfl⟩ ?_
  clear hK K
  refine plan_turn rfl (fun K hK => ?_)
  go_simp
  refine Calls.mono (H24.out _ HR1.out) ?_
  rintro e w2 ⟨rfl, hr, hb, hk⟩
  have HR2 := hid hr
  have HT2 := hid (HT1.out.below hb HGR.out)
  have HB2 := hid (HB1.out.trans (hb.mono (Nat.le_of_lt HGR.out)))
  have HQ2 : Hid (Blk w2 B [.int .i64 4, .int .i64 id, .int .i64 z0, .int .i64 z1, .int .i64 z2, .int .i64 z3, .int .i64 z4, .int .i64 z5, .int .i64 z6, .int .i64 z7, .int .i64 z8, .int .i64 z9, .int .i64 z10] 34) := rf_blk HR1.out hk HQ1.out HRB.out HNB1.out
  clear hr hb hk
  refine hK _ _ ⟨⟨w2, HQ2.out⟩, rfl⟩ ?_
  clear hK K
  iterate 2 (refine plan_take rfl (fun K hK => ?_); go_simp; refine ⟨_, fun _ => rfl, hK _ ?_⟩; clear hK K)
  refine plan_done ⟨rfl, ?_⟩
  clear n0 n1 n2 n3 n4 n5 n6 n7 n8 n9 n10 n11 n12
  go_wp2
  go_ret
  exact ⟨rfl, _, past, HP.out.1, by omega, HT2.out, HR2.out, HB2.out⟩
end Go.Proofs.Ytdagkeklfhlcnaa
