/- The step: Of, At, and no call. -/
import Derived.Test.YtdagkeklfhlcnaaStepA
namespace Go.Proofs.Ytdagkeklfhlcnaa
open Go.RowKit
theorem atV_len : ∀ {l : List (List Int)}, Elev l → ∀ (x y : Int), (atV l x y).1.length = 11
  | [], _, _, _ => rfl
  | e :: l, h, x, y => by
    rw [atV]
    split
    · exact (Elev.cons.1 h).1
    · exact atV_len (Elev.cons.1 h).2 x y
set_option maxRecDepth 20000 in
set_option maxHeartbeats 8000000 in
theorem step5 (g r : Nat) (l : List (List Int)) (past id : Int) (z0 z1 z2 z3 z4 z5 z6 z7 z8 z9 z10 : Int) (w : World) (hT : Tb w g l past) (hR : Rf w r l (past + 1)) (hgr : g < r) (hp : 0 ≤ past ∧ past < 1000) : Calls Try.prog 10 #[P g, P r, .agg #[.int .i64 5, .int .i64 id, .int .i64 z0, .int .i64 z1, .int .i64 z2, .int .i64 z3, .int .i64 z4, .int .i64 z5, .int .i64 z6, .int .i64 z7, .int .i64 z8, .int .i64 z9, .int .i64 z10]] w fun e w' => OutStep w g r past e w' := by
  have hn := hT.few
  obtain ⟨W, hW⟩ : ∃ W, W = w.alloc (.cells #[Value.int .i64 5, .int .i64 id, .int .i64 z0, .int .i64 z1, .int .i64 z2, .int .i64 z3, .int .i64 z4, .int .i64 z5, .int .i64 z6, .int .i64 z7, .int .i64 z8, .int .i64 z9, .int .i64 z10] 34) := ⟨_, rfl⟩
  obtain ⟨B, hB⟩ : ∃ B, B = w.heap.size := ⟨_, rfl⟩
  have HBW : Hid (Below w.heap.size w W) := by rw [hW]; exact (Below.refl _ _).alloc (Nat.le_refl _) _
  have HQ : Hid (Blk W B [.int .i64 5, .int .i64 id, .int .i64 z0, .int .i64 z1, .int .i64 z2, .int .i64 z3, .int .i64 z4, .int .i64 z5, .int .i64 z6, .int .i64 z7, .int .i64 z8, .int .i64 z9, .int .i64 z10] 34) := by rw [hW, hB]; exact Blk.new _ _ _
  have HT : Hid (Tb W g l past) := hT.below HBW.out hT.lt
  have HR : Hid (Rf W r l (past + 1)) := hR.below HBW.out
  have HGR := hid hgr
  have HRB : Hid (r < B) := by rw [hB]; exact hR.lt
  have HGS : Hid (g ≤ w.heap.size) := Nat.le_of_lt hT.lt
  have HP := hid hp
  have HB0 : Hid (Below g w W) := HBW.out.mono HGS.out
  have HNB : Hid (∀ v n, Blk W r [v, n] 38 → v.ownBlock ≠ some B) := fun v n hb e => by
    obtain ⟨v', h1, h2⟩ := hR
    have h3 := Blk.inj (h1.below HBW.out h1.lt) hb
    simp at h3
    rw [← h3.1] at e
    have := (h2.block B e).2
    omega
  have H20 : Hid (∀ w0, Tb w0 g l past → Calls Try.prog 20 #[P g, .int .i64 id] w0 fun e w' => OutInts w0 (ofL l id) e w') := fun w0 h => of_any g l past id w0 h
  have H26 : Hid (∀ w1, Rf w1 r l (past + 1) → Calls Try.prog 26 #[P r, .int .i64 id] w1 fun e w' => OutInts w1 (ofL l id) e w') := fun w1 h => rof_any r l (past + 1) id w1 h (by omega)
  have HLN : Hid ((ofL l id).length ≤ 1000000) := by have := ofL_len l id; exact hid (by omega)
  have H25 : Hid (∀ (xs : List Int) (b b' : Nat) (p q : Option Addr) (N c c' : Nat) (W : World), OwnI W b (.slice p N c) xs → OwnI W b' (.slice q N c') xs → N ≤ 1000000 → Calls Try.prog 25 #[.slice p N c, .slice q N c'] W fun e w' => Out W (.bool true) e w') := sameInts_any
  obtain ⟨XS, hXS⟩ : ∃ XS, XS = ofL l id := ⟨_, rfl⟩
  rw [← hXS] at H20 H26 HLN
  clear hXS
  unfold OutStep
  unfold Out OutInts P at *
  try unfold E at *
  try simp only [List.map_cons, List.map_nil, I] at *
  clear hT hR hgr hp
  go_enter Try.func10, Try.ntmps10
  go_upto_region 1 with fail
  rw [← hW, ← hB]
  clear hW hB HBW
  have q0 : W.cell? ⟨B, 0, none⟩ = some (.int .i64 5) := HQ.out.cell 0
  have q1 : W.cell? ⟨B, 1, none⟩ = some (.int .i64 id) := HQ.out.cell 1
  have q2 : W.cell? ⟨B, 2, none⟩ = some (.int .i64 z0) := HQ.out.cell 2
  have q3 : W.cell? ⟨B, 3, none⟩ = some (.int .i64 z1) := HQ.out.cell 3
  have q4 : W.cell? ⟨B, 4, none⟩ = some (.int .i64 z2) := HQ.out.cell 4
  have q5 : W.cell? ⟨B, 5, none⟩ = some (.int .i64 z3) := HQ.out.cell 5
  have q6 : W.cell? ⟨B, 6, none⟩ = some (.int .i64 z4) := HQ.out.cell 6
  have q7 : W.cell? ⟨B, 7, none⟩ = some (.int .i64 z5) := HQ.out.cell 7
  have q8 : W.cell? ⟨B, 8, none⟩ = some (.int .i64 z6) := HQ.out.cell 8
  have q9 : W.cell? ⟨B, 9, none⟩ = some (.int .i64 z7) := HQ.out.cell 9
  have q10 : W.cell? ⟨B, 10, none⟩ = some (.int .i64 z8) := HQ.out.cell 10
  have q11 : W.cell? ⟨B, 11, none⟩ = some (.int .i64 z9) := HQ.out.cell 11
  have q12 : W.cell? ⟨B, 12, none⟩ = some (.int .i64 z10) := HQ.out.cell 12
  go_upto_region 15 with fail
  clear q0 q1 q2 q3 q4 q5 q6 q7 q8 q9 q10 q11 q12
  have n0 : ∀ x : Bx B [Value.int .i64 5, .int .i64 id, .int .i64 z0, .int .i64 z1, .int .i64 z2, .int .i64 z3, .int .i64 z4, .int .i64 z5, .int .i64 z6, .int .i64 z7, .int .i64 z8, .int .i64 z9, .int .i64 z10], x.w.cell? ⟨B, 0, none⟩ = some (.int .i64 5) := fun x => x.h.cell 0
  have n1 : ∀ x : Bx B [Value.int .i64 5, .int .i64 id, .int .i64 z0, .int .i64 z1, .int .i64 z2, .int .i64 z3, .int .i64 z4, .int .i64 z5, .int .i64 z6, .int .i64 z7, .int .i64 z8, .int .i64 z9, .int .i64 z10], x.w.cell? ⟨B, 1, none⟩ = some (.int .i64 id) := fun x => x.h.cell 1
  have n2 : ∀ x : Bx B [Value.int .i64 5, .int .i64 id, .int .i64 z0, .int .i64 z1, .int .i64 z2, .int .i64 z3, .int .i64 z4, .int .i64 z5, .int .i64 z6, .int .i64 z7, .int .i64 z8, .int .i64 z9, .int .i64 z10], x.w.cell? ⟨B, 2, none⟩ = some (.int .i64 z0) := fun x => x.h.cell 2
  have n3 : ∀ x : Bx B [Value.int .i64 5, .int .i64 id, .int .i64 z0, .int .i64 z1, .int .i64 z2, .int .i64 z3, .int .i64 z4, .int .i64 z5, .int .i64 z6, .int .i64 z7, .int .i64 z8, .int .i64 z9, .int .i64 z10], x.w.cell? ⟨B, 3, none⟩ = some (.int .i64 z1) := fun x => x.h.cell 3
  have n4 : ∀ x : Bx B [Value.int .i64 5, .int .i64 id, .int .i64 z0, .int .i64 z1, .int .i64 z2, .int .i64 z3, .int .i64 z4, .int .i64 z5, .int .i64 z6, .int .i64 z7, .int .i64 z8, .int .i64 z9, .int .i64 z10], x.w.cell? ⟨B, 4, none⟩ = some (.int .i64 z2) := fun x => x.h.cell 4
  have n5 : ∀ x : Bx B [Value.int .i64 5, .int .i64 id, .int .i64 z0, .int .i64 z1, .int .i64 z2, .int .i64 z3, .int .i64 z4, .int .i64 z5, .int .i64 z6, .int .i64 z7, .int .i64 z8, .int .i64 z9, .int .i64 z10], x.w.cell? ⟨B, 5, none⟩ = some (.int .i64 z3) := fun x => x.h.cell 5
  have n6 : ∀ x : Bx B [Value.int .i64 5, .int .i64 id, .int .i64 z0, .int .i64 z1, .int .i64 z2, .int .i64 z3, .int .i64 z4, .int .i64 z5, .int .i64 z6, .int .i64 z7, .int .i64 z8, .int .i64 z9, .int .i64 z10], x.w.cell? ⟨B, 6, none⟩ = some (.int .i64 z4) := fun x => x.h.cell 6
  have n7 : ∀ x : Bx B [Value.int .i64 5, .int .i64 id, .int .i64 z0, .int .i64 z1, .int .i64 z2, .int .i64 z3, .int .i64 z4, .int .i64 z5, .int .i64 z6, .int .i64 z7, .int .i64 z8, .int .i64 z9, .int .i64 z10], x.w.cell? ⟨B, 7, none⟩ = some (.int .i64 z5) := fun x => x.h.cell 7
  have n8 : ∀ x : Bx B [Value.int .i64 5, .int .i64 id, .int .i64 z0, .int .i64 z1, .int .i64 z2, .int .i64 z3, .int .i64 z4, .int .i64 z5, .int .i64 z6, .int .i64 z7, .int .i64 z8, .int .i64 z9, .int .i64 z10], x.w.cell? ⟨B, 8, none⟩ = some (.int .i64 z6) := fun x => x.h.cell 8
  have n9 : ∀ x : Bx B [Value.int .i64 5, .int .i64 id, .int .i64 z0, .int .i64 z1, .int .i64 z2, .int .i64 z3, .int .i64 z4, .int .i64 z5, .int .i64 z6, .int .i64 z7, .int .i64 z8, .int .i64 z9, .int .i64 z10], x.w.cell? ⟨B, 9, none⟩ = some (.int .i64 z7) := fun x => x.h.cell 9
  have n10 : ∀ x : Bx B [Value.int .i64 5, .int .i64 id, .int .i64 z0, .int .i64 z1, .int .i64 z2, .int .i64 z3, .int .i64 z4, .int .i64 z5, .int .i64 z6, .int .i64 z7, .int .i64 z8, .int .i64 z9, .int .i64 z10], x.w.cell? ⟨B, 10, none⟩ = some (.int .i64 z8) := fun x => x.h.cell 10
  have n11 : ∀ x : Bx B [Value.int .i64 5, .int .i64 id, .int .i64 z0, .int .i64 z1, .int .i64 z2, .int .i64 z3, .int .i64 z4, .int .i64 z5, .int .i64 z6, .int .i64 z7, .int .i64 z8, .int .i64 z9, .int .i64 z10], x.w.cell? ⟨B, 11, none⟩ = some (.int .i64 z9) := fun x => x.h.cell 11
  have n12 : ∀ x : Bx B [Value.int .i64 5, .int .i64 id, .int .i64 z0, .int .i64 z1, .int .i64 z2, .int .i64 z3, .int .i64 z4, .int .i64 z5, .int .i64 z6, .int .i64 z7, .int .i64 z8, .int .i64 z9, .int .i64 z10], x.w.cell? ⟨B, 12, none⟩ = some (.int .i64 z10) := fun x => x.h.cell 12
  refine wp_region_calm (S := fun w' => ∃ x : Bx B [Value.int .i64 5, .int .i64 id, .int .i64 z0, .int .i64 z1, .int .i64 z2, .int .i64 z3, .int .i64 z4, .int .i64 z5, .int .i64 z6, .int .i64 z7, .int .i64 z8, .int .i64 z9, .int .i64 z10], w' = x.w) [(0, false), (1, false), (2, false), (4, false), (5, false), (6, false), (3, true), (7, true), (8, true), (9, false)] (by kernel_rfl) (by kernel_rfl) rfl (by kernel_rfl) ⟨⟨W.drew, HQ.out.drew⟩, rfl⟩ ?_
  have HT0 : Hid (Tb W.drew g l past) := HT.out.keep rfl
  have HR0 : Hid (Rf W.drew r l (past + 1)) := HR.out.keep fun _ _ _ => rfl
  have HQ0 : Hid (Blk W.drew B [.int .i64 5, .int .i64 id, .int .i64 z0, .int .i64 z1, .int .i64 z2, .int .i64 z3, .int .i64 z4, .int .i64 z5, .int .i64 z6, .int .i64 z7, .int .i64 z8, .int .i64 z9, .int .i64 z10] 34) := HQ.out.drew
  have HB0' : Hid (Below g w W.drew) := Below.drewN HB0.out 1
  have HNB0 : Hid (∀ v n, Blk W.drew r [v, n] 38 → v.ownBlock ≠ some B) := HNB.out
  obtain ⟨U, hU⟩ : ∃ U, U = W.drew := ⟨_, rfl⟩
  rw [← hU] at HT0 HR0 HQ0 HB0' HNB0 ⊢
  clear hU HT HR HQ HB0 HNB
  have HT := HT0
  have HR := HR0
  have HQ := HQ0
  have HB0 := HB0'
  have HNB := HNB0
  clear HT0 HR0 HQ0 HB0' HNB0
  iterate 6 (refine plan_take rfl (fun K hK => ?_); go_simp; refine ⟨_, fun _ => rfl, hK _ ?_⟩; clear hK K)
  refine plan_turn rfl (fun K hK => ?_)
  go_simp
  refine Calls.mono (H20.out _ HT.out) ?_
  rintro e w1 ⟨v1, rfl, ho, hb⟩
  obtain ⟨p1, k1, rfl⟩ := ho.form
  have HT1 := hid (HT.out.below hb HT.out.lt)
  have HR1 := hid (HR.out.below hb)
  have HQ1 := hid (HQ.out.below hb HQ.out.lt)
  have HB1 : Hid (Below g w w1) := HB0.out.trans (hb.mono (Nat.le_of_lt HT.out.lt))
  have hrr : w1.heap[r]? = U.heap[r]? := hb.block r HR.out.lt
  have HO1 := hid ho
  clear ho
  clear hb
  have HNB1 : Hid (∀ v n, Blk w1 r [v, n] 38 → v.ownBlock ≠ some B) := fun v n hb => HNB.out v n (by unfold Blk at *; rw [← hrr]; exact hb)
  clear hrr
  refine hK _ _ ⟨⟨w1, HQ1.out⟩, rfl⟩ ?_
  clear hK K
  refine plan_turn rfl (fun K hK => ?_)
  go_simp
  refine Calls.mono (H26.out _ HR1.out) ?_
  rintro e w2 ⟨v2, rfl, ho, hb⟩
  obtain ⟨p2, k2, rfl⟩ := ho.form
  have HR2 := hid (HR1.out.below hb)
  have HT2 := hid (HT1.out.below hb HT1.out.lt)
  have HB2 := hid (HB1.out.trans (hb.mono (Nat.le_of_lt HT1.out.lt)))
  have HQ2 := hid (HQ1.out.below hb HQ1.out.lt)
  have HO2 := hid ho
  have HO1' := hid (HO1.out.keep fun k _ hk => hb.block k hk)
  clear hb ho HO1
  refine hK _ _ ⟨⟨w2, HQ2.out⟩, rfl⟩ ?_
  clear hK K
  refine plan_turn rfl (fun K hK => ?_)
  go_simp
  refine Calls.mono (H25.out XS _ _ _ _ _ _ _ _ HO1'.out HO2.out HLN.out) ?_
  rintro e w3 ⟨rfl, hb⟩
  have HR3 := hid (HR2.out.below hb)
  have HT3 := hid (HT2.out.below hb HT2.out.lt)
  have HB3 := hid (HB2.out.trans (hb.mono (Nat.le_of_lt HT2.out.lt)))
  have HQ3 := hid (HQ2.out.below hb HQ2.out.lt)
  clear hb HT2 HR2 HB2 HQ2
  have HT2 := HT3
  have HR2 := HR3
  have HB2 := HB3
  have HQ2 := HQ3
  clear HT3 HR3 HB3 HQ3
  refine hK _ _ ⟨⟨w3, HQ2.out⟩, rfl⟩ ?_
  clear hK K
  iterate 1 (refine plan_take rfl (fun K hK => ?_); go_simp; refine ⟨_, fun _ => rfl, hK _ ?_⟩; clear hK K)
  refine plan_done ⟨rfl, ?_⟩
  clear n0 n1 n2 n3 n4 n5 n6 n7 n8 n9 n10 n11 n12
  go_wp2
  go_ret
  exact ⟨rfl, l, past, HP.out.1, by omega, HT2.out, HR2.out, HB2.out⟩
set_option maxRecDepth 20000 in
set_option maxHeartbeats 8000000 in
theorem step6 (g r : Nat) (l : List (List Int)) (past id : Int) (z0 z1 z2 z3 z4 z5 z6 z7 z8 z9 z10 : Int) (w : World) (hT : Tb w g l past) (hR : Rf w r l (past + 1)) (hgr : g < r) (hp : 0 ≤ past ∧ past < 1000) : Calls Try.prog 10 #[P g, P r, .agg #[.int .i64 6, .int .i64 id, .int .i64 z0, .int .i64 z1, .int .i64 z2, .int .i64 z3, .int .i64 z4, .int .i64 z5, .int .i64 z6, .int .i64 z7, .int .i64 z8, .int .i64 z9, .int .i64 z10]] w fun e w' => OutStep w g r past e w' := by
  have hn := hT.few
  obtain ⟨W, hW⟩ : ∃ W, W = w.alloc (.cells #[Value.int .i64 6, .int .i64 id, .int .i64 z0, .int .i64 z1, .int .i64 z2, .int .i64 z3, .int .i64 z4, .int .i64 z5, .int .i64 z6, .int .i64 z7, .int .i64 z8, .int .i64 z9, .int .i64 z10] 34) := ⟨_, rfl⟩
  obtain ⟨B, hB⟩ : ∃ B, B = w.heap.size := ⟨_, rfl⟩
  have HBW : Hid (Below w.heap.size w W) := by rw [hW]; exact (Below.refl _ _).alloc (Nat.le_refl _) _
  have HQ : Hid (Blk W B [.int .i64 6, .int .i64 id, .int .i64 z0, .int .i64 z1, .int .i64 z2, .int .i64 z3, .int .i64 z4, .int .i64 z5, .int .i64 z6, .int .i64 z7, .int .i64 z8, .int .i64 z9, .int .i64 z10] 34) := by rw [hW, hB]; exact Blk.new _ _ _
  have HT : Hid (Tb W g l past) := hT.below HBW.out hT.lt
  have HR : Hid (Rf W r l (past + 1)) := hR.below HBW.out
  have HGR := hid hgr
  have HRB : Hid (r < B) := by rw [hB]; exact hR.lt
  have HGS : Hid (g ≤ w.heap.size) := Nat.le_of_lt hT.lt
  have HP := hid hp
  have HB0 : Hid (Below g w W) := HBW.out.mono HGS.out
  have HNB : Hid (∀ v n, Blk W r [v, n] 38 → v.ownBlock ≠ some B) := fun v n hb e => by
    obtain ⟨v', h1, h2⟩ := hR
    have h3 := Blk.inj (h1.below HBW.out h1.lt) hb
    simp at h3
    rw [← h3.1] at e
    have := (h2.block B e).2
    omega
  have H18 : Hid (Calls Try.prog 18 #[P g, .agg #[.int .i64 z3, .int .i64 z4]] W fun e w' => Out W (.tuple #[E (atV l z3 z4).1, .bool (atV l z3 z4).2]) e w') := at_any g l past z3 z4 W HT.out
  have H22 : Hid (∀ w1, Rf w1 r l (past + 1) → Calls Try.prog 27 #[P r, .agg #[.int .i64 z3, .int .i64 z4]] w1 fun e w' => Out w1 (.tuple #[E (atV l z3 z4).1, .bool (atV l z3 z4).2]) e w') := fun w1 h => rat_any r l (past + 1) z3 z4 w1 h (by omega)
  obtain ⟨y0, y1, y2, y3, y4, y5, y6, y7, y8, y9, y10, hy⟩ := eleven (atV_len hT.elev z3 z4)
  rw [hy] at H18 H22
  generalize (atV l z3 z4).2 = AB at *
  clear hy
  unfold OutStep
  unfold Out P at *
  try unfold E at *
  try simp only [List.map_cons, List.map_nil, I] at *
  clear hT hR hgr hp
  go_enter Try.func10, Try.ntmps10
  go_upto_region 1 with fail
  rw [← hW, ← hB]
  clear hW hB HBW
  have q0 : W.cell? ⟨B, 0, none⟩ = some (.int .i64 6) := HQ.out.cell 0
  have q1 : W.cell? ⟨B, 1, none⟩ = some (.int .i64 id) := HQ.out.cell 1
  have q2 : W.cell? ⟨B, 2, none⟩ = some (.int .i64 z0) := HQ.out.cell 2
  have q3 : W.cell? ⟨B, 3, none⟩ = some (.int .i64 z1) := HQ.out.cell 3
  have q4 : W.cell? ⟨B, 4, none⟩ = some (.int .i64 z2) := HQ.out.cell 4
  have q5 : W.cell? ⟨B, 5, none⟩ = some (.int .i64 z3) := HQ.out.cell 5
  have q6 : W.cell? ⟨B, 6, none⟩ = some (.int .i64 z4) := HQ.out.cell 6
  have q7 : W.cell? ⟨B, 7, none⟩ = some (.int .i64 z5) := HQ.out.cell 7
  have q8 : W.cell? ⟨B, 8, none⟩ = some (.int .i64 z6) := HQ.out.cell 8
  have q9 : W.cell? ⟨B, 9, none⟩ = some (.int .i64 z7) := HQ.out.cell 9
  have q10 : W.cell? ⟨B, 10, none⟩ = some (.int .i64 z8) := HQ.out.cell 10
  have q11 : W.cell? ⟨B, 11, none⟩ = some (.int .i64 z9) := HQ.out.cell 11
  have q12 : W.cell? ⟨B, 12, none⟩ = some (.int .i64 z10) := HQ.out.cell 12
  go_wp2_with fail
  refine Calls.mono H18.out ?_
  rintro e w1 ⟨rfl, hb⟩
  have HT1 := hid (HT.out.below hb HT.out.lt)
  have HR1 := hid (HR.out.below hb)
  have HQ1 := hid (HQ.out.below hb HQ.out.lt)
  have HB1 : Hid (Below g w w1) := HB0.out.trans (hb.mono (Nat.le_of_lt HT.out.lt))
  have hrr : w1.heap[r]? = W.heap[r]? := hb.block r HR.out.lt
  clear hb
  have HNB1 : Hid (∀ v n, Blk w1 r [v, n] 38 → v.ownBlock ≠ some B) := fun v n hb => HNB.out v n (by unfold Blk at *; rw [← hrr]; exact hb)
  clear hrr
  clear q0 q1 q2 q3 q4 q5 q6 q7 q8 q9 q10 q11 q12
  go_upto_region 18 with fail
  obtain ⟨V1, hV1⟩ : ∃ V1, V1 = w1.alloc (.cells #[Value.int .i64 y0, .int .i64 y1, .int .i64 y2, .int .i64 y3, .int .i64 y4, .int .i64 y5, .int .i64 y6, .int .i64 y7, .int .i64 y8, .int .i64 y9, .int .i64 y10] 32) := ⟨_, rfl⟩
  obtain ⟨a1, ha1⟩ : ∃ a1, a1 = w1.heap.size := ⟨_, rfl⟩
  rw [← hV1, ← ha1]
  have HBV : Hid (Below w1.heap.size w1 V1) := by rw [hV1]; exact (Below.refl _ _).alloc (Nat.le_refl _) _
  have HA1 : Hid (Blk V1 a1 [.int .i64 y0, .int .i64 y1, .int .i64 y2, .int .i64 y3, .int .i64 y4, .int .i64 y5, .int .i64 y6, .int .i64 y7, .int .i64 y8, .int .i64 y9, .int .i64 y10] 32) := by rw [hV1, ha1]; exact Blk.new _ _ _
  have HR1' := hid (HR1.out.below HBV.out)
  have HT1' := hid (HT1.out.below HBV.out HT1.out.lt)
  have HQ1' := hid (HQ1.out.below HBV.out HQ1.out.lt)
  have HB1' := hid (HB1.out.trans (HBV.out.mono (Nat.le_of_lt HT1.out.lt)))
  clear hV1 ha1
  have q0 : V1.cell? ⟨B, 0, none⟩ = some (.int .i64 6) := HQ1'.out.cell 0
  have q1 : V1.cell? ⟨B, 1, none⟩ = some (.int .i64 id) := HQ1'.out.cell 1
  have q2 : V1.cell? ⟨B, 2, none⟩ = some (.int .i64 z0) := HQ1'.out.cell 2
  have q3 : V1.cell? ⟨B, 3, none⟩ = some (.int .i64 z1) := HQ1'.out.cell 3
  have q4 : V1.cell? ⟨B, 4, none⟩ = some (.int .i64 z2) := HQ1'.out.cell 4
  have q5 : V1.cell? ⟨B, 5, none⟩ = some (.int .i64 z3) := HQ1'.out.cell 5
  have q6 : V1.cell? ⟨B, 6, none⟩ = some (.int .i64 z4) := HQ1'.out.cell 6
  have q7 : V1.cell? ⟨B, 7, none⟩ = some (.int .i64 z5) := HQ1'.out.cell 7
  have q8 : V1.cell? ⟨B, 8, none⟩ = some (.int .i64 z6) := HQ1'.out.cell 8
  have q9 : V1.cell? ⟨B, 9, none⟩ = some (.int .i64 z7) := HQ1'.out.cell 9
  have q10 : V1.cell? ⟨B, 10, none⟩ = some (.int .i64 z8) := HQ1'.out.cell 10
  have q11 : V1.cell? ⟨B, 11, none⟩ = some (.int .i64 z9) := HQ1'.out.cell 11
  have q12 : V1.cell? ⟨B, 12, none⟩ = some (.int .i64 z10) := HQ1'.out.cell 12
  go_wp2_with fail
  refine Calls.mono (H22.out _ HR1'.out) ?_
  rintro e w2 ⟨rfl, hb⟩
  have HR2 := hid (HR1'.out.below hb)
  have HT2 := hid (HT1'.out.below hb HT1'.out.lt)
  have HB2 := hid (HB1'.out.trans (hb.mono (Nat.le_of_lt HT1'.out.lt)))
  have HA2 := hid (HA1.out.below hb HA1.out.lt)
  clear q0 q1 q2 q3 q4 q5 q6 q7 q8 q9 q10 q11 q12
  clear hb
  go_upto_region 19 with fail
  obtain ⟨V2, hV2⟩ : ∃ V2, V2 = w2.alloc (.cells #[Value.int .i64 y0, .int .i64 y1, .int .i64 y2, .int .i64 y3, .int .i64 y4, .int .i64 y5, .int .i64 y6, .int .i64 y7, .int .i64 y8, .int .i64 y9, .int .i64 y10] 32) := ⟨_, rfl⟩
  obtain ⟨a2, ha2⟩ : ∃ a2, a2 = w2.heap.size := ⟨_, rfl⟩
  rw [← hV2, ← ha2]
  have HBV2 : Hid (Below w2.heap.size w2 V2) := by rw [hV2]; exact (Below.refl _ _).alloc (Nat.le_refl _) _
  have HC2 : Hid (Blk V2 a2 [.int .i64 y0, .int .i64 y1, .int .i64 y2, .int .i64 y3, .int .i64 y4, .int .i64 y5, .int .i64 y6, .int .i64 y7, .int .i64 y8, .int .i64 y9, .int .i64 y10] 32) := by rw [hV2, ha2]; exact Blk.new _ _ _
  have HA3 := hid (HA2.out.below HBV2.out HA2.out.lt)
  have HR3 := hid (HR2.out.below HBV2.out)
  have HT3 := hid (HT2.out.below HBV2.out HT2.out.lt)
  have HB3 := hid (HB2.out.trans (HBV2.out.mono (Nat.le_of_lt HT2.out.lt)))
  clear hV2 ha2
  have s0 : V2.cell? ⟨a1, 0, none⟩ = some (.int .i64 y0) := HA3.out.cell 0
  have v0 : V2.cell? ⟨a2, 0, none⟩ = some (.int .i64 y0) := HC2.out.cell 0
  have s1 : V2.cell? ⟨a1, 1, none⟩ = some (.int .i64 y1) := HA3.out.cell 1
  have v1 : V2.cell? ⟨a2, 1, none⟩ = some (.int .i64 y1) := HC2.out.cell 1
  have s2 : V2.cell? ⟨a1, 2, none⟩ = some (.int .i64 y2) := HA3.out.cell 2
  have v2 : V2.cell? ⟨a2, 2, none⟩ = some (.int .i64 y2) := HC2.out.cell 2
  have s3 : V2.cell? ⟨a1, 3, none⟩ = some (.int .i64 y3) := HA3.out.cell 3
  have v3 : V2.cell? ⟨a2, 3, none⟩ = some (.int .i64 y3) := HC2.out.cell 3
  have s4 : V2.cell? ⟨a1, 4, none⟩ = some (.int .i64 y4) := HA3.out.cell 4
  have v4 : V2.cell? ⟨a2, 4, none⟩ = some (.int .i64 y4) := HC2.out.cell 4
  have s5 : V2.cell? ⟨a1, 5, none⟩ = some (.int .i64 y5) := HA3.out.cell 5
  have v5 : V2.cell? ⟨a2, 5, none⟩ = some (.int .i64 y5) := HC2.out.cell 5
  have s6 : V2.cell? ⟨a1, 6, none⟩ = some (.int .i64 y6) := HA3.out.cell 6
  have v6 : V2.cell? ⟨a2, 6, none⟩ = some (.int .i64 y6) := HC2.out.cell 6
  have s7 : V2.cell? ⟨a1, 7, none⟩ = some (.int .i64 y7) := HA3.out.cell 7
  have v7 : V2.cell? ⟨a2, 7, none⟩ = some (.int .i64 y7) := HC2.out.cell 7
  have s8 : V2.cell? ⟨a1, 8, none⟩ = some (.int .i64 y8) := HA3.out.cell 8
  have v8 : V2.cell? ⟨a2, 8, none⟩ = some (.int .i64 y8) := HC2.out.cell 8
  have s9 : V2.cell? ⟨a1, 9, none⟩ = some (.int .i64 y9) := HA3.out.cell 9
  have v9 : V2.cell? ⟨a2, 9, none⟩ = some (.int .i64 y9) := HC2.out.cell 9
  have s10 : V2.cell? ⟨a1, 10, none⟩ = some (.int .i64 y10) := HA3.out.cell 10
  have v10 : V2.cell? ⟨a2, 10, none⟩ = some (.int .i64 y10) := HC2.out.cell 10
  go_wp2
  go_ret
  exact ⟨rfl, l, past, HP.out.1, by omega, HT3.out, HR3.out, HB3.out⟩
set_option maxRecDepth 20000 in
set_option maxHeartbeats 8000000 in
theorem step0 (g r : Nat) (l : List (List Int)) (past k id : Int) (z0 z1 z2 z3 z4 z5 z6 z7 z8 z9 z10 : Int) (w : World) (hT : Tb w g l past) (hR : Rf w r l (past + 1)) (hgr : g < r) (hp : 0 ≤ past ∧ past < 1000) (hk1 : k ≠ 1) (hk2 : k ≠ 2) (hk3 : k ≠ 3) (hk4 : k ≠ 4) (hk5 : k ≠ 5) (hk6 : k ≠ 6) : Calls Try.prog 10 #[P g, P r, .agg #[.int .i64 k, .int .i64 id, .int .i64 z0, .int .i64 z1, .int .i64 z2, .int .i64 z3, .int .i64 z4, .int .i64 z5, .int .i64 z6, .int .i64 z7, .int .i64 z8, .int .i64 z9, .int .i64 z10]] w fun e w' => OutStep w g r past e w' := by
  have hn := hT.few
  have k1 : (k == 1) = false := by simpa using hk1
  have k2 : (k == 2) = false := by simpa using hk2
  have k3 : (k == 3) = false := by simpa using hk3
  have k4 : (k == 4) = false := by simpa using hk4
  have k5 : (k == 5) = false := by simpa using hk5
  have k6 : (k == 6) = false := by simpa using hk6
  obtain ⟨W, hW⟩ : ∃ W, W = w.alloc (.cells #[Value.int .i64 k, .int .i64 id, .int .i64 z0, .int .i64 z1, .int .i64 z2, .int .i64 z3, .int .i64 z4, .int .i64 z5, .int .i64 z6, .int .i64 z7, .int .i64 z8, .int .i64 z9, .int .i64 z10] 34) := ⟨_, rfl⟩
  obtain ⟨B, hB⟩ : ∃ B, B = w.heap.size := ⟨_, rfl⟩
  have HBW : Hid (Below w.heap.size w W) := by rw [hW]; exact (Below.refl _ _).alloc (Nat.le_refl _) _
  have HQ : Hid (Blk W B [.int .i64 k, .int .i64 id, .int .i64 z0, .int .i64 z1, .int .i64 z2, .int .i64 z3, .int .i64 z4, .int .i64 z5, .int .i64 z6, .int .i64 z7, .int .i64 z8, .int .i64 z9, .int .i64 z10] 34) := by rw [hW, hB]; exact Blk.new _ _ _
  have HT : Hid (Tb W g l past) := hT.below HBW.out hT.lt
  have HR : Hid (Rf W r l (past + 1)) := hR.below HBW.out
  have HGR := hid hgr
  have HRB : Hid (r < B) := by rw [hB]; exact hR.lt
  have HGS : Hid (g ≤ w.heap.size) := Nat.le_of_lt hT.lt
  have HP := hid hp
  have HB0 : Hid (Below g w W) := HBW.out.mono HGS.out
  unfold OutStep
  unfold P at *
  try unfold E at *
  try simp only [List.map_cons, List.map_nil, I] at *
  clear hT hR hgr hp
  go_enter Try.func10, Try.ntmps10
  go_upto_region 1 with fail
  rw [← hW, ← hB]
  clear hW hB HBW
  have q0 : W.cell? ⟨B, 0, none⟩ = some (.int .i64 k) := HQ.out.cell 0
  have q1 : W.cell? ⟨B, 1, none⟩ = some (.int .i64 id) := HQ.out.cell 1
  have q2 : W.cell? ⟨B, 2, none⟩ = some (.int .i64 z0) := HQ.out.cell 2
  have q3 : W.cell? ⟨B, 3, none⟩ = some (.int .i64 z1) := HQ.out.cell 3
  have q4 : W.cell? ⟨B, 4, none⟩ = some (.int .i64 z2) := HQ.out.cell 4
  have q5 : W.cell? ⟨B, 5, none⟩ = some (.int .i64 z3) := HQ.out.cell 5
  have q6 : W.cell? ⟨B, 6, none⟩ = some (.int .i64 z4) := HQ.out.cell 6
  have q7 : W.cell? ⟨B, 7, none⟩ = some (.int .i64 z5) := HQ.out.cell 7
  have q8 : W.cell? ⟨B, 8, none⟩ = some (.int .i64 z6) := HQ.out.cell 8
  have q9 : W.cell? ⟨B, 9, none⟩ = some (.int .i64 z7) := HQ.out.cell 9
  have q10 : W.cell? ⟨B, 10, none⟩ = some (.int .i64 z8) := HQ.out.cell 10
  have q11 : W.cell? ⟨B, 11, none⟩ = some (.int .i64 z9) := HQ.out.cell 11
  have q12 : W.cell? ⟨B, 12, none⟩ = some (.int .i64 z10) := HQ.out.cell 12
  go_wp2
  go_ret
  exact ⟨rfl, l, past, HP.out.1, by omega, HT.out, HR.out, HB0.out⟩
end Go.Proofs.Ytdagkeklfhlcnaa
