/- Quotients of the reference. -/
import Derived.Test.YtdfobaggdeoggaaRefMul
namespace Go.Proofs.Ytdfobaggdeoggaa
open Go.RowKit
attribute [local go_sem ↓] zv37
set_option maxRecDepth 100000 in
set_option maxHeartbeats 8000000 in
theorem refDiv_any (a b : Int) (ha : I64 a) (hb : I64 b) (w : World) : Calls Try.prog 19 #[.int .i64 a, .int .i64 b] w fun e w' => e = .returned (.tuple #[.int .i64 (divV a b), .int .i64 (divE b)]) ∧ Below w.heap.size w w' := by
  by_cases h0 : b = 0
  · subst h0
    have e1 : divV a 0 = 0 := rfl
    have e2 : divE 0 = 2 := rfl
    rw [e1, e2]
    go_enter Try.func19, Try.ntmps19
    go_wp2_with fail
    go_ret2
    exact ⟨rfl, Below.refl _ _⟩
  have hbz : (b == 0) = false := by simp [h0]
  have na := natAbs_le ha
  have nb := natAbs_le hb
  have nb0 : 0 < b.natAbs := by omega
  have h1 := hid (ofBig_any a ha)
  have h2 := hid (ofBig_any b hb)
  have h28 : Hid (∀ W, Calls Try.prog 28 #[.agg (big a.natAbs).toArray, .int .i64 32] W fun e w' => e = .returned (.agg (big (a.natAbs * 4294967296)).toArray) ∧ Below W.heap.size W w') := up_any a.natAbs 32 (by omega)
  have hlt : a.natAbs * 4294967296 < 2 ^ 160 := Nat.lt_of_le_of_lt (Nat.mul_le_mul_right 4294967296 na) (by decide)
  have h34 := hid (divided_any (a.natAbs * 4294967296) b.natAbs hlt nb0 (by omega))
  have hq : a.natAbs * 4294967296 / b.natAbs ≤ a.natAbs * 4294967296 := Nat.div_le_self _ _
  have hr : a.natAbs * 4294967296 % b.natAbs < b.natAbs := Nat.mod_lt _ nb0
  have h27 := hid (held_any (a.natAbs * 4294967296 / b.natAbs) (lt160 (by omega)) (decide (a < 0) != decide (b < 0)) (decide (a.natAbs * 4294967296 % b.natAbs ≠ 0)))
  rw [show heldV (a.natAbs * 4294967296 / b.natAbs) (decide (a < 0) != decide (b < 0)) (decide (a.natAbs * 4294967296 % b.natAbs ≠ 0)) = divV a b by unfold divV; rw [if_neg h0]] at h27
  have hneq := fun w => run_neq_big w (a.natAbs * 4294967296 % b.natAbs) (Nat.lt_of_lt_of_le hr (Nat.le_trans nb (by decide)))
  have hE : divE b = 0 := by unfold divE; rw [if_neg h0]
  rw [hE]
  generalize divV a b = V at *
  clear ha hb na nb nb0 hq hr hE hlt
  generalize a.natAbs * 4294967296 / b.natAbs = QQ at *
  generalize decide (a.natAbs * 4294967296 % b.natAbs ≠ 0) = m at *
  generalize a.natAbs * 4294967296 % b.natAbs = RR at *
  generalize a.natAbs * 4294967296 = XY at *
  generalize a.natAbs = X at *
  generalize b.natAbs = Y at *
  generalize decide (a < 0) = s at *
  generalize decide (b < 0) = t at *
  go_enter Try.func19, Try.ntmps19
  go_wp2_with fail
  refine Calls.mono (h1.out _) ?_
  rintro e w1 ⟨rfl, hb1⟩
  go_upto_region 4 with (first
    | ((with_reducible refine wpL_new 37 (big 0) (big X) zv37 (by rw [big_length, big_length]) ?_ ?_ (size37 X) (big_oneCell X) ?_); (rfl); (rfl); (simp only [Act.put, List.setIfInBounds_toArray, List.set_cons_zero, List.set_cons_succ])))
  have gB0 : Blk (w1.alloc (.cells (big X).toArray 37)) w1.heap.size (big X) 37 := Blk.new _ _ _
  have HE1 : Hid (Below w.heap.size w (w1.alloc (.cells (big X).toArray 37))) := hb1.alloc hb1.size _
  generalize (w1.alloc (.cells (big X).toArray 37)) = W1 at *
  generalize w1.heap.size = P5 at *
  clear hb1
  go_wp2_with fail
  refine Calls.mono (h2.out _) ?_
  rintro e w2 ⟨rfl, hb2⟩
  have g0 := gB0.below hb2 gB0.lt
  have HE2 : Hid (Below w.heap.size w w2) := HE1.out.trans (hb2.mono HE1.out.size)
  clear gB0 HE1 hb2
  go_upto_region 5 with (first
    | ((with_reducible refine wpL_new 37 (big 0) (big Y) zv37 (by rw [big_length, big_length]) ?_ ?_ (size37 Y) (big_oneCell Y) ?_); (rfl); (rfl); (simp only [Act.put, List.setIfInBounds_toArray, List.set_cons_zero, List.set_cons_succ])))
  have q0 : Blk (w2.alloc (.cells (big Y).toArray 37)) P5 (big X) 37 := g0.alloc _
  have q1 : Blk (w2.alloc (.cells (big Y).toArray 37)) w2.heap.size (big Y) 37 := Blk.new _ _ _
  have HE3 : Hid (Below w.heap.size w (w2.alloc (.cells (big Y).toArray 37))) := HE2.out.alloc HE2.out.size _
  clear g0 HE2
  generalize (w2.alloc (.cells (big Y).toArray 37)) = W2 at *
  generalize w2.heap.size = P7 at *
  have T0 : St w P5 P7 P7 X Y Y W2.heap.size none none W2.drew := ⟨⟨q0.drew, q1.drew, q1.drew⟩, HE3.out.drew, ⟨q0.lt, q1.lt, q1.lt, HE3.out.size, Nat.le_refl _⟩, fun b e => (by cases e), fun b e => (by cases e), fun b c e => (by cases e)⟩
  clear q0 q1 HE3
  refine wp_region_held_drew (S := fun W' => Blk W' P5 (big X) 37 ∧ Blk W' P7 (big Y) 37 ∧ Blk W' P7 (big Y) 37) (by kernel_rfl) T0.s fun _ => ?_
  generalize W2.heap.size = M at *
  generalize W2.drew = w0 at *
  refine takeH_load 37 P5 0 (big X) _ (i := 0) (by exact rfl) (by kernel_rfl) (by kernel_rfl) (by kernel_rfl) (fun _ _ _ h => h) (by go_simp) (fun w' h => h.1.range) Try.underlying37 rfl (size37 _) T0.s ?_
  simp only [Act.put, List.setIfInBounds_toArray, List.set_cons_zero, List.set_cons_succ]
  refine takeH_load 37 P7 0 (big Y) _ (i := 2) (by exact rfl) (by kernel_rfl) (by kernel_rfl) (by kernel_rfl) (fun _ _ _ h => h) (by go_simp) (fun w' h => h.2.1.range) Try.underlying37 rfl (size37 _) T0.s ?_
  simp only [Act.put, List.setIfInBounds_toArray, List.set_cons_zero, List.set_cons_succ]
  refine wpAnyH_ready (rs := [1, 7, 8]) (by kernel_rfl) (by simp) ?_
  refine readyH_call 28 _ _ #[.agg (big X).toArray, .int .i64 32] (by exact rfl) (by go_simp) (by go_simp) ?_ ?_
  · refine (h28.out _).mono ?_
    rintro e w1 ⟨rfl, hb1⟩
    have T1 := T0.call hb1
    refine ⟨_, rfl, T1.s, ?_⟩
    simp only [Act.put, List.setIfInBounds_toArray, List.set_cons_zero, List.set_cons_succ]
    refine wpAnyH_ready (rs := [3, 7, 8]) (by kernel_rfl) (by simp) ?_
    refine readyH_call 34 _ _ #[.agg (big XY).toArray, .agg (big Y).toArray] (by exact rfl) (by go_simp) (by go_simp) ?_ ?_
    · refine (h34.out _).mono ?_
      rintro e w2 ⟨rfl, hb2⟩
      have T2 := T1.call hb2
      refine ⟨_, rfl, T2.s, ?_⟩
      simp only [Act.put, List.setIfInBounds_toArray, List.set_cons_zero, List.set_cons_succ]
      refine takeH_op (i := 4) (.tuple #[.agg (big QQ).toArray, .agg (big RR).toArray]) (by exact rfl) (by kernel_rfl) (by kernel_rfl) (by kernel_rfl) (fun _ _ _ h => h) (fun w => by go_simp) T2.s ?_
      simp only [Act.put, List.setIfInBounds_toArray, List.set_cons_zero, List.set_cons_succ]
      refine takeH_op (i := 5) (.agg (big QQ).toArray) (by exact rfl) (by kernel_rfl) (by kernel_rfl) (by kernel_rfl) (fun _ _ _ h => h) (fun w => by go_simp) T2.s ?_
      simp only [Act.put, List.setIfInBounds_toArray, List.set_cons_zero, List.set_cons_succ]
      refine takeH_op (i := 6) (.agg (big RR).toArray) (by exact rfl) (by kernel_rfl) (by kernel_rfl) (by kernel_rfl) (fun _ _ _ h => h) (fun w => by go_simp) T2.s ?_
      simp only [Act.put, List.setIfInBounds_toArray, List.set_cons_zero, List.set_cons_succ]
      refine wpAnyH_ready (rs := [7, 8]) (by kernel_rfl) (by simp) ?_
      refine readyH_alloc 37 (big 0) zv37 (by exact rfl) T2.allocP.s ?_ ?_
      · have T3 := T2.allocP
        simp only [Act.put, List.setIfInBounds_toArray, List.set_cons_zero, List.set_cons_succ]
        generalize w2.alloc (.cells (big 0).toArray 37) = w3 at *
        generalize w2.heap.size = b3 at *
        refine wpAnyH_ready (rs := [8]) (by kernel_rfl) (by simp) ?_
        refine readyH_alloc 37 (big 0) zv37 (by exact rfl) T3.allocQ.s ?_ AllReadyH.nil
        have T4 := T3.allocQ
        simp only [Act.put, List.setIfInBounds_toArray, List.set_cons_zero, List.set_cons_succ]
        generalize w3.alloc (.cells (big 0).toArray 37) = w4 at *
        generalize w3.heap.size = b4 at *
        have F := T4.stores QQ RR
        refine wpAnyH_ready (rs := [9]) (by kernel_rfl) (by simp) ?_
        refine readyH_store 37 b3 0 (big QQ) (by exact rfl) (by go_simp) (by go_simp) F.1 (size37 _) (big_oneCell _) F.2.1 ?_ AllReadyH.nil
        simp only [Act.put]
        refine wpAnyH_ready (rs := [10]) (by kernel_rfl) (by simp) ?_
        refine readyH_store 37 b4 0 (big RR) (by exact rfl) (by go_simp) (by go_simp) F.2.2.1 (size37 _) (big_oneCell _) F.2.2.2.1 ?_ AllReadyH.nil
        simp only [Act.put]
        refine wpAnyH_done (by kernel_rfl) ?_ _
        have hB := F.2.2.2.2.1
        have hC := F.2.2.2.2.2.1
        have hE := hid F.2.2.2.2.2.2
        clear F T4
        generalize (w4.setCells b3 0 (big QQ)).setCells b4 0 (big RR) = WF at *
        go_wp2
        refine wp_region_held_drew (S := fun W' => Blk W' b3 (big QQ) 37 ∧ Blk W' b4 (big RR) 37) (by kernel_rfl) ⟨hB.drew, hC.drew⟩ fun hS => ?_
        replace hE := hid hE.out.drew
        clear hB hC
        generalize WF.drew = WG at *
        refine takeH_load 37 b3 0 (big QQ) _ (i := 0) (by exact rfl) (by kernel_rfl) (by kernel_rfl) (by kernel_rfl) (fun _ _ _ h => h) (by go_simp) (fun w' h => h.1.range) Try.underlying37 rfl (size37 _) hS ?_
        simp only [Act.put, List.setIfInBounds_toArray, List.set_cons_zero, List.set_cons_succ]
        refine takeH_op (i := 1) (.bool s) (by exact rfl) (by kernel_rfl) (by kernel_rfl) (by kernel_rfl) (fun _ _ _ h => h) (fun w => by go_simp) hS ?_
        simp only [Act.put, List.setIfInBounds_toArray, List.set_cons_zero, List.set_cons_succ]
        refine takeH_op (i := 2) (.bool t) (by exact rfl) (by kernel_rfl) (by kernel_rfl) (by kernel_rfl) (fun _ _ _ h => h) (fun w => by go_simp) hS ?_
        simp only [Act.put, List.setIfInBounds_toArray, List.set_cons_zero, List.set_cons_succ]
        refine takeH_op (i := 3) (.bool (s != t)) (by exact rfl) (by kernel_rfl) (by kernel_rfl) (by kernel_rfl) (fun _ _ _ h => h) (fun w => by go_simp; cases s <;> cases t <;> rfl) hS ?_
        simp only [Act.put, List.setIfInBounds_toArray, List.set_cons_zero, List.set_cons_succ]
        refine takeH_load 37 b4 0 (big RR) _ (i := 4) (by exact rfl) (by kernel_rfl) (by kernel_rfl) (by kernel_rfl) (fun _ _ _ h => h) (by go_simp) (fun w' h => h.2.range) Try.underlying37 rfl (size37 _) hS ?_
        simp only [Act.put, List.setIfInBounds_toArray, List.set_cons_zero, List.set_cons_succ]
        refine takeH_op (i := 5) (.agg (big 0).toArray) (by exact rfl) (by kernel_rfl) (by kernel_rfl) (by kernel_rfl) (fun _ _ _ h => h) (fun w => by go_simp) hS ?_
        simp only [Act.put, List.setIfInBounds_toArray, List.set_cons_zero, List.set_cons_succ]
        refine takeH_op (i := 6) (.bool m) (by exact rfl) (by kernel_rfl) (by kernel_rfl) (by kernel_rfl) (fun _ _ _ h => h) (exec_neq RR m (by rfl) (by rfl) hneq) hS ?_
        simp only [Act.put, List.setIfInBounds_toArray, List.set_cons_zero, List.set_cons_succ]
        refine wpAnyH_ready (rs := [7]) (by kernel_rfl) (by simp) ?_
        refine readyH_call 27 _ _ #[.agg (big QQ).toArray, .bool (s != t), .bool m] (by exact rfl) (by go_simp) (by go_simp) ?_ AllReadyH.nil
        refine (h27.out _).mono ?_
        rintro e wz ⟨rfl, hbz⟩
        have hSz : Blk wz b3 (big QQ) 37 ∧ Blk wz b4 (big RR) 37 := ⟨hS.1.below hbz hS.1.lt, hS.2.below hbz hS.2.lt⟩
        refine ⟨_, rfl, hSz, ?_⟩
        simp only [Act.put, List.setIfInBounds_toArray, List.set_cons_zero, List.set_cons_succ]
        refine takeH_op (i := 8) (.int .i64 V) (by exact rfl) (by kernel_rfl) (by kernel_rfl) (by kernel_rfl) (fun _ _ _ h => h) (fun w => by go_simp) hSz ?_
        simp only [Act.put, List.setIfInBounds_toArray, List.set_cons_zero, List.set_cons_succ]
        refine takeH_op (i := 9) (.int .i64 0) (by exact rfl) (by kernel_rfl) (by kernel_rfl) (by kernel_rfl) (fun _ _ _ h => h) (fun w => by go_simp) hSz ?_
        simp only [Act.put, List.setIfInBounds_toArray, List.set_cons_zero, List.set_cons_succ]
        refine wpAnyH_done (by kernel_rfl) ?_ _
        go_wp2
        go_ret2
        exact ⟨rfl, hE.out.trans (hbz.mono hE.out.size)⟩
      refine readyH_alloc 37 (big 0) zv37 (by exact rfl) T2.allocQ.s ?_ AllReadyH.nil
      have T5 := T2.allocQ
      simp only [Act.put, List.setIfInBounds_toArray, List.set_cons_zero, List.set_cons_succ]
      generalize w2.alloc (.cells (big 0).toArray 37) = w5 at *
      generalize w2.heap.size = b5 at *
      refine wpAnyH_ready (rs := [7]) (by kernel_rfl) (by simp) ?_
      refine readyH_alloc 37 (big 0) zv37 (by exact rfl) T5.allocP.s ?_ AllReadyH.nil
      have T6 := T5.allocP
      simp only [Act.put, List.setIfInBounds_toArray, List.set_cons_zero, List.set_cons_succ]
      generalize w5.alloc (.cells (big 0).toArray 37) = w6 at *
      generalize w5.heap.size = b6 at *
      have F := T6.stores QQ RR
      refine wpAnyH_ready (rs := [9]) (by kernel_rfl) (by simp) ?_
      refine readyH_store 37 b6 0 (big QQ) (by exact rfl) (by go_simp) (by go_simp) F.1 (size37 _) (big_oneCell _) F.2.1 ?_ AllReadyH.nil
      simp only [Act.put]
      refine wpAnyH_ready (rs := [10]) (by kernel_rfl) (by simp) ?_
      refine readyH_store 37 b5 0 (big RR) (by exact rfl) (by go_simp) (by go_simp) F.2.2.1 (size37 _) (big_oneCell _) F.2.2.2.1 ?_ AllReadyH.nil
      simp only [Act.put]
      refine wpAnyH_done (by kernel_rfl) ?_ _
      have hB := F.2.2.2.2.1
      have hC := F.2.2.2.2.2.1
      have hE := hid F.2.2.2.2.2.2
      clear F T6
      generalize (w6.setCells b6 0 (big QQ)).setCells b5 0 (big RR) = WF at *
      go_wp2
      refine wp_region_held_drew (S := fun W' => Blk W' b6 (big QQ) 37 ∧ Blk W' b5 (big RR) 37) (by kernel_rfl) ⟨hB.drew, hC.drew⟩ fun hS => ?_
      replace hE := hid hE.out.drew
      clear hB hC
      generalize WF.drew = WG at *
      refine takeH_load 37 b6 0 (big QQ) _ (i := 0) (by exact rfl) (by kernel_rfl) (by kernel_rfl) (by kernel_rfl) (fun _ _ _ h => h) (by go_simp) (fun w' h => h.1.range) Try.underlying37 rfl (size37 _) hS ?_
      simp only [Act.put, List.setIfInBounds_toArray, List.set_cons_zero, List.set_cons_succ]
      refine takeH_op (i := 1) (.bool s) (by exact rfl) (by kernel_rfl) (by kernel_rfl) (by kernel_rfl) (fun _ _ _ h => h) (fun w => by go_simp) hS ?_
      simp only [Act.put, List.setIfInBounds_toArray, List.set_cons_zero, List.set_cons_succ]
      refine takeH_op (i := 2) (.bool t) (by exact rfl) (by kernel_rfl) (by kernel_rfl) (by kernel_rfl) (fun _ _ _ h => h) (fun w => by go_simp) hS ?_
      simp only [Act.put, List.setIfInBounds_toArray, List.set_cons_zero, List.set_cons_succ]
      refine takeH_op (i := 3) (.bool (s != t)) (by exact rfl) (by kernel_rfl) (by kernel_rfl) (by kernel_rfl) (fun _ _ _ h => h) (fun w => by go_simp; cases s <;> cases t <;> rfl) hS ?_
      simp only [Act.put, List.setIfInBounds_toArray, List.set_cons_zero, List.set_cons_succ]
      refine takeH_load 37 b5 0 (big RR) _ (i := 4) (by exact rfl) (by kernel_rfl) (by kernel_rfl) (by kernel_rfl) (fun _ _ _ h => h) (by go_simp) (fun w' h => h.2.range) Try.underlying37 rfl (size37 _) hS ?_
      simp only [Act.put, List.setIfInBounds_toArray, List.set_cons_zero, List.set_cons_succ]
      refine takeH_op (i := 5) (.agg (big 0).toArray) (by exact rfl) (by kernel_rfl) (by kernel_rfl) (by kernel_rfl) (fun _ _ _ h => h) (fun w => by go_simp) hS ?_
      simp only [Act.put, List.setIfInBounds_toArray, List.set_cons_zero, List.set_cons_succ]
      refine takeH_op (i := 6) (.bool m) (by exact rfl) (by kernel_rfl) (by kernel_rfl) (by kernel_rfl) (fun _ _ _ h => h) (exec_neq RR m (by rfl) (by rfl) hneq) hS ?_
      simp only [Act.put, List.setIfInBounds_toArray, List.set_cons_zero, List.set_cons_succ]
      refine wpAnyH_ready (rs := [7]) (by kernel_rfl) (by simp) ?_
      refine readyH_call 27 _ _ #[.agg (big QQ).toArray, .bool (s != t), .bool m] (by exact rfl) (by go_simp) (by go_simp) ?_ AllReadyH.nil
      refine (h27.out _).mono ?_
      rintro e wz ⟨rfl, hbz⟩
      have hSz : Blk wz b6 (big QQ) 37 ∧ Blk wz b5 (big RR) 37 := ⟨hS.1.below hbz hS.1.lt, hS.2.below hbz hS.2.lt⟩
      refine ⟨_, rfl, hSz, ?_⟩
      simp only [Act.put, List.setIfInBounds_toArray, List.set_cons_zero, List.set_cons_succ]
      refine takeH_op (i := 8) (.int .i64 V) (by exact rfl) (by kernel_rfl) (by kernel_rfl) (by kernel_rfl) (fun _ _ _ h => h) (fun w => by go_simp) hSz ?_
      simp only [Act.put, List.setIfInBounds_toArray, List.set_cons_zero, List.set_cons_succ]
      refine takeH_op (i := 9) (.int .i64 0) (by exact rfl) (by kernel_rfl) (by kernel_rfl) (by kernel_rfl) (fun _ _ _ h => h) (fun w => by go_simp) hSz ?_
      simp only [Act.put, List.setIfInBounds_toArray, List.set_cons_zero, List.set_cons_succ]
      refine wpAnyH_done (by kernel_rfl) ?_ _
      go_wp2
      go_ret2
      exact ⟨rfl, hE.out.trans (hbz.mono hE.out.size)⟩
    refine readyH_alloc 37 (big 0) zv37 (by exact rfl) T1.allocP.s ?_ ?_
    · have T7 := T1.allocP
      simp only [Act.put, List.setIfInBounds_toArray, List.set_cons_zero, List.set_cons_succ]
      generalize w1.alloc (.cells (big 0).toArray 37) = w7 at *
      generalize w1.heap.size = b7 at *
      refine wpAnyH_ready (rs := [3, 8]) (by kernel_rfl) (by simp) ?_
      refine readyH_call 34 _ _ #[.agg (big XY).toArray, .agg (big Y).toArray] (by exact rfl) (by go_simp) (by go_simp) ?_ ?_
      · refine (h34.out _).mono ?_
        rintro e w8 ⟨rfl, hb8⟩
        have T8 := T7.call hb8
        refine ⟨_, rfl, T8.s, ?_⟩
        simp only [Act.put, List.setIfInBounds_toArray, List.set_cons_zero, List.set_cons_succ]
        refine takeH_op (i := 4) (.tuple #[.agg (big QQ).toArray, .agg (big RR).toArray]) (by exact rfl) (by kernel_rfl) (by kernel_rfl) (by kernel_rfl) (fun _ _ _ h => h) (fun w => by go_simp) T8.s ?_
        simp only [Act.put, List.setIfInBounds_toArray, List.set_cons_zero, List.set_cons_succ]
        refine takeH_op (i := 5) (.agg (big QQ).toArray) (by exact rfl) (by kernel_rfl) (by kernel_rfl) (by kernel_rfl) (fun _ _ _ h => h) (fun w => by go_simp) T8.s ?_
        simp only [Act.put, List.setIfInBounds_toArray, List.set_cons_zero, List.set_cons_succ]
        refine takeH_op (i := 6) (.agg (big RR).toArray) (by exact rfl) (by kernel_rfl) (by kernel_rfl) (by kernel_rfl) (fun _ _ _ h => h) (fun w => by go_simp) T8.s ?_
        simp only [Act.put, List.setIfInBounds_toArray, List.set_cons_zero, List.set_cons_succ]
        refine wpAnyH_ready (rs := [8]) (by kernel_rfl) (by simp) ?_
        refine readyH_alloc 37 (big 0) zv37 (by exact rfl) T8.allocQ.s ?_ AllReadyH.nil
        have T9 := T8.allocQ
        simp only [Act.put, List.setIfInBounds_toArray, List.set_cons_zero, List.set_cons_succ]
        generalize w8.alloc (.cells (big 0).toArray 37) = w9 at *
        generalize w8.heap.size = b9 at *
        have F := T9.stores QQ RR
        refine wpAnyH_ready (rs := [9]) (by kernel_rfl) (by simp) ?_
        refine readyH_store 37 b7 0 (big QQ) (by exact rfl) (by go_simp) (by go_simp) F.1 (size37 _) (big_oneCell _) F.2.1 ?_ AllReadyH.nil
        simp only [Act.put]
        refine wpAnyH_ready (rs := [10]) (by kernel_rfl) (by simp) ?_
        refine readyH_store 37 b9 0 (big RR) (by exact rfl) (by go_simp) (by go_simp) F.2.2.1 (size37 _) (big_oneCell _) F.2.2.2.1 ?_ AllReadyH.nil
        simp only [Act.put]
        refine wpAnyH_done (by kernel_rfl) ?_ _
        have hB := F.2.2.2.2.1
        have hC := F.2.2.2.2.2.1
        have hE := hid F.2.2.2.2.2.2
        clear F T9
        generalize (w9.setCells b7 0 (big QQ)).setCells b9 0 (big RR) = WF at *
        go_wp2
        refine wp_region_held_drew (S := fun W' => Blk W' b7 (big QQ) 37 ∧ Blk W' b9 (big RR) 37) (by kernel_rfl) ⟨hB.drew, hC.drew⟩ fun hS => ?_
        replace hE := hid hE.out.drew
        clear hB hC
        generalize WF.drew = WG at *
        refine takeH_load 37 b7 0 (big QQ) _ (i := 0) (by exact rfl) (by kernel_rfl) (by kernel_rfl) (by kernel_rfl) (fun _ _ _ h => h) (by go_simp) (fun w' h => h.1.range) Try.underlying37 rfl (size37 _) hS ?_
        simp only [Act.put, List.setIfInBounds_toArray, List.set_cons_zero, List.set_cons_succ]
        refine takeH_op (i := 1) (.bool s) (by exact rfl) (by kernel_rfl) (by kernel_rfl) (by kernel_rfl) (fun _ _ _ h => h) (fun w => by go_simp) hS ?_
        simp only [Act.put, List.setIfInBounds_toArray, List.set_cons_zero, List.set_cons_succ]
        refine takeH_op (i := 2) (.bool t) (by exact rfl) (by kernel_rfl) (by kernel_rfl) (by kernel_rfl) (fun _ _ _ h => h) (fun w => by go_simp) hS ?_
        simp only [Act.put, List.setIfInBounds_toArray, List.set_cons_zero, List.set_cons_succ]
        refine takeH_op (i := 3) (.bool (s != t)) (by exact rfl) (by kernel_rfl) (by kernel_rfl) (by kernel_rfl) (fun _ _ _ h => h) (fun w => by go_simp; cases s <;> cases t <;> rfl) hS ?_
        simp only [Act.put, List.setIfInBounds_toArray, List.set_cons_zero, List.set_cons_succ]
        refine takeH_load 37 b9 0 (big RR) _ (i := 4) (by exact rfl) (by kernel_rfl) (by kernel_rfl) (by kernel_rfl) (fun _ _ _ h => h) (by go_simp) (fun w' h => h.2.range) Try.underlying37 rfl (size37 _) hS ?_
        simp only [Act.put, List.setIfInBounds_toArray, List.set_cons_zero, List.set_cons_succ]
        refine takeH_op (i := 5) (.agg (big 0).toArray) (by exact rfl) (by kernel_rfl) (by kernel_rfl) (by kernel_rfl) (fun _ _ _ h => h) (fun w => by go_simp) hS ?_
        simp only [Act.put, List.setIfInBounds_toArray, List.set_cons_zero, List.set_cons_succ]
        refine takeH_op (i := 6) (.bool m) (by exact rfl) (by kernel_rfl) (by kernel_rfl) (by kernel_rfl) (fun _ _ _ h => h) (exec_neq RR m (by rfl) (by rfl) hneq) hS ?_
        simp only [Act.put, List.setIfInBounds_toArray, List.set_cons_zero, List.set_cons_succ]
        refine wpAnyH_ready (rs := [7]) (by kernel_rfl) (by simp) ?_
        refine readyH_call 27 _ _ #[.agg (big QQ).toArray, .bool (s != t), .bool m] (by exact rfl) (by go_simp) (by go_simp) ?_ AllReadyH.nil
        refine (h27.out _).mono ?_
        rintro e wz ⟨rfl, hbz⟩
        have hSz : Blk wz b7 (big QQ) 37 ∧ Blk wz b9 (big RR) 37 := ⟨hS.1.below hbz hS.1.lt, hS.2.below hbz hS.2.lt⟩
        refine ⟨_, rfl, hSz, ?_⟩
        simp only [Act.put, List.setIfInBounds_toArray, List.set_cons_zero, List.set_cons_succ]
        refine takeH_op (i := 8) (.int .i64 V) (by exact rfl) (by kernel_rfl) (by kernel_rfl) (by kernel_rfl) (fun _ _ _ h => h) (fun w => by go_simp) hSz ?_
        simp only [Act.put, List.setIfInBounds_toArray, List.set_cons_zero, List.set_cons_succ]
        refine takeH_op (i := 9) (.int .i64 0) (by exact rfl) (by kernel_rfl) (by kernel_rfl) (by kernel_rfl) (fun _ _ _ h => h) (fun w => by go_simp) hSz ?_
        simp only [Act.put, List.setIfInBounds_toArray, List.set_cons_zero, List.set_cons_succ]
        refine wpAnyH_done (by kernel_rfl) ?_ _
        go_wp2
        go_ret2
        exact ⟨rfl, hE.out.trans (hbz.mono hE.out.size)⟩
      refine readyH_alloc 37 (big 0) zv37 (by exact rfl) T7.allocQ.s ?_ AllReadyH.nil
      have T10 := T7.allocQ
      simp only [Act.put, List.setIfInBounds_toArray, List.set_cons_zero, List.set_cons_succ]
      generalize w7.alloc (.cells (big 0).toArray 37) = w10 at *
      generalize w7.heap.size = b10 at *
      refine wpAnyH_ready (rs := [3]) (by kernel_rfl) (by simp) ?_
      refine readyH_call 34 _ _ #[.agg (big XY).toArray, .agg (big Y).toArray] (by exact rfl) (by go_simp) (by go_simp) ?_ AllReadyH.nil
      refine (h34.out _).mono ?_
      rintro e w11 ⟨rfl, hb11⟩
      have T11 := T10.call hb11
      refine ⟨_, rfl, T11.s, ?_⟩
      simp only [Act.put, List.setIfInBounds_toArray, List.set_cons_zero, List.set_cons_succ]
      refine takeH_op (i := 4) (.tuple #[.agg (big QQ).toArray, .agg (big RR).toArray]) (by exact rfl) (by kernel_rfl) (by kernel_rfl) (by kernel_rfl) (fun _ _ _ h => h) (fun w => by go_simp) T11.s ?_
      simp only [Act.put, List.setIfInBounds_toArray, List.set_cons_zero, List.set_cons_succ]
      refine takeH_op (i := 5) (.agg (big QQ).toArray) (by exact rfl) (by kernel_rfl) (by kernel_rfl) (by kernel_rfl) (fun _ _ _ h => h) (fun w => by go_simp) T11.s ?_
      simp only [Act.put, List.setIfInBounds_toArray, List.set_cons_zero, List.set_cons_succ]
      refine takeH_op (i := 6) (.agg (big RR).toArray) (by exact rfl) (by kernel_rfl) (by kernel_rfl) (by kernel_rfl) (fun _ _ _ h => h) (fun w => by go_simp) T11.s ?_
      simp only [Act.put, List.setIfInBounds_toArray, List.set_cons_zero, List.set_cons_succ]
      have F := T11.stores QQ RR
      refine wpAnyH_ready (rs := [9]) (by kernel_rfl) (by simp) ?_
      refine readyH_store 37 b7 0 (big QQ) (by exact rfl) (by go_simp) (by go_simp) F.1 (size37 _) (big_oneCell _) F.2.1 ?_ AllReadyH.nil
      simp only [Act.put]
      refine wpAnyH_ready (rs := [10]) (by kernel_rfl) (by simp) ?_
      refine readyH_store 37 b10 0 (big RR) (by exact rfl) (by go_simp) (by go_simp) F.2.2.1 (size37 _) (big_oneCell _) F.2.2.2.1 ?_ AllReadyH.nil
      simp only [Act.put]
      refine wpAnyH_done (by kernel_rfl) ?_ _
      have hB := F.2.2.2.2.1
      have hC := F.2.2.2.2.2.1
      have hE := hid F.2.2.2.2.2.2
      clear F T11
      generalize (w11.setCells b7 0 (big QQ)).setCells b10 0 (big RR) = WF at *
      go_wp2
      refine wp_region_held_drew (S := fun W' => Blk W' b7 (big QQ) 37 ∧ Blk W' b10 (big RR) 37) (by kernel_rfl) ⟨hB.drew, hC.drew⟩ fun hS => ?_
      replace hE := hid hE.out.drew
      clear hB hC
      generalize WF.drew = WG at *
      refine takeH_load 37 b7 0 (big QQ) _ (i := 0) (by exact rfl) (by kernel_rfl) (by kernel_rfl) (by kernel_rfl) (fun _ _ _ h => h) (by go_simp) (fun w' h => h.1.range) Try.underlying37 rfl (size37 _) hS ?_
      simp only [Act.put, List.setIfInBounds_toArray, List.set_cons_zero, List.set_cons_succ]
      refine takeH_op (i := 1) (.bool s) (by exact rfl) (by kernel_rfl) (by kernel_rfl) (by kernel_rfl) (fun _ _ _ h => h) (fun w => by go_simp) hS ?_
      simp only [Act.put, List.setIfInBounds_toArray, List.set_cons_zero, List.set_cons_succ]
      refine takeH_op (i := 2) (.bool t) (by exact rfl) (by kernel_rfl) (by kernel_rfl) (by kernel_rfl) (fun _ _ _ h => h) (fun w => by go_simp) hS ?_
      simp only [Act.put, List.setIfInBounds_toArray, List.set_cons_zero, List.set_cons_succ]
      refine takeH_op (i := 3) (.bool (s != t)) (by exact rfl) (by kernel_rfl) (by kernel_rfl) (by kernel_rfl) (fun _ _ _ h => h) (fun w => by go_simp; cases s <;> cases t <;> rfl) hS ?_
      simp only [Act.put, List.setIfInBounds_toArray, List.set_cons_zero, List.set_cons_succ]
      refine takeH_load 37 b10 0 (big RR) _ (i := 4) (by exact rfl) (by kernel_rfl) (by kernel_rfl) (by kernel_rfl) (fun _ _ _ h => h) (by go_simp) (fun w' h => h.2.range) Try.underlying37 rfl (size37 _) hS ?_
      simp only [Act.put, List.setIfInBounds_toArray, List.set_cons_zero, List.set_cons_succ]
      refine takeH_op (i := 5) (.agg (big 0).toArray) (by exact rfl) (by kernel_rfl) (by kernel_rfl) (by kernel_rfl) (fun _ _ _ h => h) (fun w => by go_simp) hS ?_
      simp only [Act.put, List.setIfInBounds_toArray, List.set_cons_zero, List.set_cons_succ]
      refine takeH_op (i := 6) (.bool m) (by exact rfl) (by kernel_rfl) (by kernel_rfl) (by kernel_rfl) (fun _ _ _ h => h) (exec_neq RR m (by rfl) (by rfl) hneq) hS ?_
      simp only [Act.put, List.setIfInBounds_toArray, List.set_cons_zero, List.set_cons_succ]
      refine wpAnyH_ready (rs := [7]) (by kernel_rfl) (by simp) ?_
      refine readyH_call 27 _ _ #[.agg (big QQ).toArray, .bool (s != t), .bool m] (by exact rfl) (by go_simp) (by go_simp) ?_ AllReadyH.nil
      refine (h27.out _).mono ?_
      rintro e wz ⟨rfl, hbz⟩
      have hSz : Blk wz b7 (big QQ) 37 ∧ Blk wz b10 (big RR) 37 := ⟨hS.1.below hbz hS.1.lt, hS.2.below hbz hS.2.lt⟩
      refine ⟨_, rfl, hSz, ?_⟩
      simp only [Act.put, List.setIfInBounds_toArray, List.set_cons_zero, List.set_cons_succ]
      refine takeH_op (i := 8) (.int .i64 V) (by exact rfl) (by kernel_rfl) (by kernel_rfl) (by kernel_rfl) (fun _ _ _ h => h) (fun w => by go_simp) hSz ?_
      simp only [Act.put, List.setIfInBounds_toArray, List.set_cons_zero, List.set_cons_succ]
      refine takeH_op (i := 9) (.int .i64 0) (by exact rfl) (by kernel_rfl) (by kernel_rfl) (by kernel_rfl) (fun _ _ _ h => h) (fun w => by go_simp) hSz ?_
      simp only [Act.put, List.setIfInBounds_toArray, List.set_cons_zero, List.set_cons_succ]
      refine wpAnyH_done (by kernel_rfl) ?_ _
      go_wp2
      go_ret2
      exact ⟨rfl, hE.out.trans (hbz.mono hE.out.size)⟩
    refine readyH_alloc 37 (big 0) zv37 (by exact rfl) T1.allocQ.s ?_ AllReadyH.nil
    have T12 := T1.allocQ
    simp only [Act.put, List.setIfInBounds_toArray, List.set_cons_zero, List.set_cons_succ]
    generalize w1.alloc (.cells (big 0).toArray 37) = w12 at *
    generalize w1.heap.size = b12 at *
    refine wpAnyH_ready (rs := [3, 7]) (by kernel_rfl) (by simp) ?_
    refine readyH_call 34 _ _ #[.agg (big XY).toArray, .agg (big Y).toArray] (by exact rfl) (by go_simp) (by go_simp) ?_ ?_
    · refine (h34.out _).mono ?_
      rintro e w13 ⟨rfl, hb13⟩
      have T13 := T12.call hb13
      refine ⟨_, rfl, T13.s, ?_⟩
      simp only [Act.put, List.setIfInBounds_toArray, List.set_cons_zero, List.set_cons_succ]
      refine takeH_op (i := 4) (.tuple #[.agg (big QQ).toArray, .agg (big RR).toArray]) (by exact rfl) (by kernel_rfl) (by kernel_rfl) (by kernel_rfl) (fun _ _ _ h => h) (fun w => by go_simp) T13.s ?_
      simp only [Act.put, List.setIfInBounds_toArray, List.set_cons_zero, List.set_cons_succ]
      refine takeH_op (i := 5) (.agg (big QQ).toArray) (by exact rfl) (by kernel_rfl) (by kernel_rfl) (by kernel_rfl) (fun _ _ _ h => h) (fun w => by go_simp) T13.s ?_
      simp only [Act.put, List.setIfInBounds_toArray, List.set_cons_zero, List.set_cons_succ]
      refine takeH_op (i := 6) (.agg (big RR).toArray) (by exact rfl) (by kernel_rfl) (by kernel_rfl) (by kernel_rfl) (fun _ _ _ h => h) (fun w => by go_simp) T13.s ?_
      simp only [Act.put, List.setIfInBounds_toArray, List.set_cons_zero, List.set_cons_succ]
      refine wpAnyH_ready (rs := [7]) (by kernel_rfl) (by simp) ?_
      refine readyH_alloc 37 (big 0) zv37 (by exact rfl) T13.allocP.s ?_ AllReadyH.nil
      have T14 := T13.allocP
      simp only [Act.put, List.setIfInBounds_toArray, List.set_cons_zero, List.set_cons_succ]
      generalize w13.alloc (.cells (big 0).toArray 37) = w14 at *
      generalize w13.heap.size = b14 at *
      have F := T14.stores QQ RR
      refine wpAnyH_ready (rs := [9]) (by kernel_rfl) (by simp) ?_
      refine readyH_store 37 b14 0 (big QQ) (by exact rfl) (by go_simp) (by go_simp) F.1 (size37 _) (big_oneCell _) F.2.1 ?_ AllReadyH.nil
      simp only [Act.put]
      refine wpAnyH_ready (rs := [10]) (by kernel_rfl) (by simp) ?_
      refine readyH_store 37 b12 0 (big RR) (by exact rfl) (by go_simp) (by go_simp) F.2.2.1 (size37 _) (big_oneCell _) F.2.2.2.1 ?_ AllReadyH.nil
      simp only [Act.put]
      refine wpAnyH_done (by kernel_rfl) ?_ _
      have hB := F.2.2.2.2.1
      have hC := F.2.2.2.2.2.1
      have hE := hid F.2.2.2.2.2.2
      clear F T14
      generalize (w14.setCells b14 0 (big QQ)).setCells b12 0 (big RR) = WF at *
      go_wp2
      refine wp_region_held_drew (S := fun W' => Blk W' b14 (big QQ) 37 ∧ Blk W' b12 (big RR) 37) (by kernel_rfl) ⟨hB.drew, hC.drew⟩ fun hS => ?_
      replace hE := hid hE.out.drew
      clear hB hC
      generalize WF.drew = WG at *
      refine takeH_load 37 b14 0 (big QQ) _ (i := 0) (by exact rfl) (by kernel_rfl) (by kernel_rfl) (by kernel_rfl) (fun _ _ _ h => h) (by go_simp) (fun w' h => h.1.range) Try.underlying37 rfl (size37 _) hS ?_
      simp only [Act.put, List.setIfInBounds_toArray, List.set_cons_zero, List.set_cons_succ]
      refine takeH_op (i := 1) (.bool s) (by exact rfl) (by kernel_rfl) (by kernel_rfl) (by kernel_rfl) (fun _ _ _ h => h) (fun w => by go_simp) hS ?_
      simp only [Act.put, List.setIfInBounds_toArray, List.set_cons_zero, List.set_cons_succ]
      refine takeH_op (i := 2) (.bool t) (by exact rfl) (by kernel_rfl) (by kernel_rfl) (by kernel_rfl) (fun _ _ _ h => h) (fun w => by go_simp) hS ?_
      simp only [Act.put, List.setIfInBounds_toArray, List.set_cons_zero, List.set_cons_succ]
      refine takeH_op (i := 3) (.bool (s != t)) (by exact rfl) (by kernel_rfl) (by kernel_rfl) (by kernel_rfl) (fun _ _ _ h => h) (fun w => by go_simp; cases s <;> cases t <;> rfl) hS ?_
      simp only [Act.put, List.setIfInBounds_toArray, List.set_cons_zero, List.set_cons_succ]
      refine takeH_load 37 b12 0 (big RR) _ (i := 4) (by exact rfl) (by kernel_rfl) (by kernel_rfl) (by kernel_rfl) (fun _ _ _ h => h) (by go_simp) (fun w' h => h.2.range) Try.underlying37 rfl (size37 _) hS ?_
      simp only [Act.put, List.setIfInBounds_toArray, List.set_cons_zero, List.set_cons_succ]
      refine takeH_op (i := 5) (.agg (big 0).toArray) (by exact rfl) (by kernel_rfl) (by kernel_rfl) (by kernel_rfl) (fun _ _ _ h => h) (fun w => by go_simp) hS ?_
      simp only [Act.put, List.setIfInBounds_toArray, List.set_cons_zero, List.set_cons_succ]
      refine takeH_op (i := 6) (.bool m) (by exact rfl) (by kernel_rfl) (by kernel_rfl) (by kernel_rfl) (fun _ _ _ h => h) (exec_neq RR m (by rfl) (by rfl) hneq) hS ?_
      simp only [Act.put, List.setIfInBounds_toArray, List.set_cons_zero, List.set_cons_succ]
      refine wpAnyH_ready (rs := [7]) (by kernel_rfl) (by simp) ?_
      refine readyH_call 27 _ _ #[.agg (big QQ).toArray, .bool (s != t), .bool m] (by exact rfl) (by go_simp) (by go_simp) ?_ AllReadyH.nil
      refine (h27.out _).mono ?_
      rintro e wz ⟨rfl, hbz⟩
      have hSz : Blk wz b14 (big QQ) 37 ∧ Blk wz b12 (big RR) 37 := ⟨hS.1.below hbz hS.1.lt, hS.2.below hbz hS.2.lt⟩
      refine ⟨_, rfl, hSz, ?_⟩
      simp only [Act.put, List.setIfInBounds_toArray, List.set_cons_zero, List.set_cons_succ]
      refine takeH_op (i := 8) (.int .i64 V) (by exact rfl) (by kernel_rfl) (by kernel_rfl) (by kernel_rfl) (fun _ _ _ h => h) (fun w => by go_simp) hSz ?_
      simp only [Act.put, List.setIfInBounds_toArray, List.set_cons_zero, List.set_cons_succ]
      refine takeH_op (i := 9) (.int .i64 0) (by exact rfl) (by kernel_rfl) (by kernel_rfl) (by kernel_rfl) (fun _ _ _ h => h) (fun w => by go_simp) hSz ?_
      simp only [Act.put, List.setIfInBounds_toArray, List.set_cons_zero, List.set_cons_succ]
      refine wpAnyH_done (by kernel_rfl) ?_ _
      go_wp2
      go_ret2
      exact ⟨rfl, hE.out.trans (hbz.mono hE.out.size)⟩
    refine readyH_alloc 37 (big 0) zv37 (by exact rfl) T12.allocP.s ?_ AllReadyH.nil
    have T15 := T12.allocP
    simp only [Act.put, List.setIfInBounds_toArray, List.set_cons_zero, List.set_cons_succ]
    generalize w12.alloc (.cells (big 0).toArray 37) = w15 at *
    generalize w12.heap.size = b15 at *
    refine wpAnyH_ready (rs := [3]) (by kernel_rfl) (by simp) ?_
    refine readyH_call 34 _ _ #[.agg (big XY).toArray, .agg (big Y).toArray] (by exact rfl) (by go_simp) (by go_simp) ?_ AllReadyH.nil
    refine (h34.out _).mono ?_
    rintro e w16 ⟨rfl, hb16⟩
    have T16 := T15.call hb16
    refine ⟨_, rfl, T16.s, ?_⟩
    simp only [Act.put, List.setIfInBounds_toArray, List.set_cons_zero, List.set_cons_succ]
    refine takeH_op (i := 4) (.tuple #[.agg (big QQ).toArray, .agg (big RR).toArray]) (by exact rfl) (by kernel_rfl) (by kernel_rfl) (by kernel_rfl) (fun _ _ _ h => h) (fun w => by go_simp) T16.s ?_
    simp only [Act.put, List.setIfInBounds_toArray, List.set_cons_zero, List.set_cons_succ]
    refine takeH_op (i := 5) (.agg (big QQ).toArray) (by exact rfl) (by kernel_rfl) (by kernel_rfl) (by kernel_rfl) (fun _ _ _ h => h) (fun w => by go_simp) T16.s ?_
    simp only [Act.put, List.setIfInBounds_toArray, List.set_cons_zero, List.set_cons_succ]
    refine takeH_op (i := 6) (.agg (big RR).toArray) (by exact rfl) (by kernel_rfl) (by kernel_rfl) (by kernel_rfl) (fun _ _ _ h => h) (fun w => by go_simp) T16.s ?_
    simp only [Act.put, List.setIfInBounds_toArray, List.set_cons_zero, List.set_cons_succ]
    have F := T16.stores QQ RR
    refine wpAnyH_ready (rs := [9]) (by kernel_rfl) (by simp) ?_
    refine readyH_store 37 b15 0 (big QQ) (by exact rfl) (by go_simp) (by go_simp) F.1 (size37 _) (big_oneCell _) F.2.1 ?_ AllReadyH.nil
    simp only [Act.put]
    refine wpAnyH_ready (rs := [10]) (by kernel_rfl) (by simp) ?_
    refine readyH_store 37 b12 0 (big RR) (by exact rfl) (by go_simp) (by go_simp) F.2.2.1 (size37 _) (big_oneCell _) F.2.2.2.1 ?_ AllReadyH.nil
    simp only [Act.put]
    refine wpAnyH_done (by kernel_rfl) ?_ _
    have hB := F.2.2.2.2.1
    have hC := F.2.2.2.2.2.1
    have hE := hid F.2.2.2.2.2.2
    clear F T16
    generalize (w16.setCells b15 0 (big QQ)).setCells b12 0 (big RR) = WF at *
    go_wp2
    refine wp_region_held_drew (S := fun W' => Blk W' b15 (big QQ) 37 ∧ Blk W' b12 (big RR) 37) (by kernel_rfl) ⟨hB.drew, hC.drew⟩ fun hS => ?_
    replace hE := hid hE.out.drew
    clear hB hC
    generalize WF.drew = WG at *
    refine takeH_load 37 b15 0 (big QQ) _ (i := 0) (by exact rfl) (by kernel_rfl) (by kernel_rfl) (by kernel_rfl) (fun _ _ _ h => h) (by go_simp) (fun w' h => h.1.range) Try.underlying37 rfl (size37 _) hS ?_
    simp only [Act.put, List.setIfInBounds_toArray, List.set_cons_zero, List.set_cons_succ]
    refine takeH_op (i := 1) (.bool s) (by exact rfl) (by kernel_rfl) (by kernel_rfl) (by kernel_rfl) (fun _ _ _ h => h) (fun w => by go_simp) hS ?_
    simp only [Act.put, List.setIfInBounds_toArray, List.set_cons_zero, List.set_cons_succ]
    refine takeH_op (i := 2) (.bool t) (by exact rfl) (by kernel_rfl) (by kernel_rfl) (by kernel_rfl) (fun _ _ _ h => h) (fun w => by go_simp) hS ?_
    simp only [Act.put, List.setIfInBounds_toArray, List.set_cons_zero, List.set_cons_succ]
    refine takeH_op (i := 3) (.bool (s != t)) (by exact rfl) (by kernel_rfl) (by kernel_rfl) (by kernel_rfl) (fun _ _ _ h => h) (fun w => by go_simp; cases s <;> cases t <;> rfl) hS ?_
    simp only [Act.put, List.setIfInBounds_toArray, List.set_cons_zero, List.set_cons_succ]
    refine takeH_load 37 b12 0 (big RR) _ (i := 4) (by exact rfl) (by kernel_rfl) (by kernel_rfl) (by kernel_rfl) (fun _ _ _ h => h) (by go_simp) (fun w' h => h.2.range) Try.underlying37 rfl (size37 _) hS ?_
    simp only [Act.put, List.setIfInBounds_toArray, List.set_cons_zero, List.set_cons_succ]
    refine takeH_op (i := 5) (.agg (big 0).toArray) (by exact rfl) (by kernel_rfl) (by kernel_rfl) (by kernel_rfl) (fun _ _ _ h => h) (fun w => by go_simp) hS ?_
    simp only [Act.put, List.setIfInBounds_toArray, List.set_cons_zero, List.set_cons_succ]
    refine takeH_op (i := 6) (.bool m) (by exact rfl) (by kernel_rfl) (by kernel_rfl) (by kernel_rfl) (fun _ _ _ h => h) (exec_neq RR m (by rfl) (by rfl) hneq) hS ?_
    simp only [Act.put, List.setIfInBounds_toArray, List.set_cons_zero, List.set_cons_succ]
    refine wpAnyH_ready (rs := [7]) (by kernel_rfl) (by simp) ?_
    refine readyH_call 27 _ _ #[.agg (big QQ).toArray, .bool (s != t), .bool m] (by exact rfl) (by go_simp) (by go_simp) ?_ AllReadyH.nil
    refine (h27.out _).mono ?_
    rintro e wz ⟨rfl, hbz⟩
    have hSz : Blk wz b15 (big QQ) 37 ∧ Blk wz b12 (big RR) 37 := ⟨hS.1.below hbz hS.1.lt, hS.2.below hbz hS.2.lt⟩
    refine ⟨_, rfl, hSz, ?_⟩
    simp only [Act.put, List.setIfInBounds_toArray, List.set_cons_zero, List.set_cons_succ]
    refine takeH_op (i := 8) (.int .i64 V) (by exact rfl) (by kernel_rfl) (by kernel_rfl) (by kernel_rfl) (fun _ _ _ h => h) (fun w => by go_simp) hSz ?_
    simp only [Act.put, List.setIfInBounds_toArray, List.set_cons_zero, List.set_cons_succ]
    refine takeH_op (i := 9) (.int .i64 0) (by exact rfl) (by kernel_rfl) (by kernel_rfl) (by kernel_rfl) (fun _ _ _ h => h) (fun w => by go_simp) hSz ?_
    simp only [Act.put, List.setIfInBounds_toArray, List.set_cons_zero, List.set_cons_succ]
    refine wpAnyH_done (by kernel_rfl) ?_ _
    go_wp2
    go_ret2
    exact ⟨rfl, hE.out.trans (hbz.mono hE.out.size)⟩
  refine readyH_alloc 37 (big 0) zv37 (by exact rfl) T0.allocP.s ?_ ?_
  · have T17 := T0.allocP
    simp only [Act.put, List.setIfInBounds_toArray, List.set_cons_zero, List.set_cons_succ]
    generalize w0.alloc (.cells (big 0).toArray 37) = w17 at *
    generalize w0.heap.size = b17 at *
    refine wpAnyH_ready (rs := [1, 8]) (by kernel_rfl) (by simp) ?_
    refine readyH_call 28 _ _ #[.agg (big X).toArray, .int .i64 32] (by exact rfl) (by go_simp) (by go_simp) ?_ ?_
    · refine (h28.out _).mono ?_
      rintro e w18 ⟨rfl, hb18⟩
      have T18 := T17.call hb18
      refine ⟨_, rfl, T18.s, ?_⟩
      simp only [Act.put, List.setIfInBounds_toArray, List.set_cons_zero, List.set_cons_succ]
      refine wpAnyH_ready (rs := [3, 8]) (by kernel_rfl) (by simp) ?_
      refine readyH_call 34 _ _ #[.agg (big XY).toArray, .agg (big Y).toArray] (by exact rfl) (by go_simp) (by go_simp) ?_ ?_
      · refine (h34.out _).mono ?_
        rintro e w19 ⟨rfl, hb19⟩
        have T19 := T18.call hb19
        refine ⟨_, rfl, T19.s, ?_⟩
        simp only [Act.put, List.setIfInBounds_toArray, List.set_cons_zero, List.set_cons_succ]
        refine takeH_op (i := 4) (.tuple #[.agg (big QQ).toArray, .agg (big RR).toArray]) (by exact rfl) (by kernel_rfl) (by kernel_rfl) (by kernel_rfl) (fun _ _ _ h => h) (fun w => by go_simp) T19.s ?_
        simp only [Act.put, List.setIfInBounds_toArray, List.set_cons_zero, List.set_cons_succ]
        refine takeH_op (i := 5) (.agg (big QQ).toArray) (by exact rfl) (by kernel_rfl) (by kernel_rfl) (by kernel_rfl) (fun _ _ _ h => h) (fun w => by go_simp) T19.s ?_
        simp only [Act.put, List.setIfInBounds_toArray, List.set_cons_zero, List.set_cons_succ]
        refine takeH_op (i := 6) (.agg (big RR).toArray) (by exact rfl) (by kernel_rfl) (by kernel_rfl) (by kernel_rfl) (fun _ _ _ h => h) (fun w => by go_simp) T19.s ?_
        simp only [Act.put, List.setIfInBounds_toArray, List.set_cons_zero, List.set_cons_succ]
        refine wpAnyH_ready (rs := [8]) (by kernel_rfl) (by simp) ?_
        refine readyH_alloc 37 (big 0) zv37 (by exact rfl) T19.allocQ.s ?_ AllReadyH.nil
        have T20 := T19.allocQ
        simp only [Act.put, List.setIfInBounds_toArray, List.set_cons_zero, List.set_cons_succ]
        generalize w19.alloc (.cells (big 0).toArray 37) = w20 at *
        generalize w19.heap.size = b20 at *
        have F := T20.stores QQ RR
        refine wpAnyH_ready (rs := [9]) (by kernel_rfl) (by simp) ?_
        refine readyH_store 37 b17 0 (big QQ) (by exact rfl) (by go_simp) (by go_simp) F.1 (size37 _) (big_oneCell _) F.2.1 ?_ AllReadyH.nil
        simp only [Act.put]
        refine wpAnyH_ready (rs := [10]) (by kernel_rfl) (by simp) ?_
        refine readyH_store 37 b20 0 (big RR) (by exact rfl) (by go_simp) (by go_simp) F.2.2.1 (size37 _) (big_oneCell _) F.2.2.2.1 ?_ AllReadyH.nil
        simp only [Act.put]
        refine wpAnyH_done (by kernel_rfl) ?_ _
        have hB := F.2.2.2.2.1
        have hC := F.2.2.2.2.2.1
        have hE := hid F.2.2.2.2.2.2
        clear F T20
        generalize (w20.setCells b17 0 (big QQ)).setCells b20 0 (big RR) = WF at *
        go_wp2
        refine wp_region_held_drew (S := fun W' => Blk W' b17 (big QQ) 37 ∧ Blk W' b20 (big RR) 37) (by kernel_rfl) ⟨hB.drew, hC.drew⟩ fun hS => ?_
        replace hE := hid hE.out.drew
        clear hB hC
        generalize WF.drew = WG at *
        refine takeH_load 37 b17 0 (big QQ) _ (i := 0) (by exact rfl) (by kernel_rfl) (by kernel_rfl) (by kernel_rfl) (fun _ _ _ h => h) (by go_simp) (fun w' h => h.1.range) Try.underlying37 rfl (size37 _) hS ?_
        simp only [Act.put, List.setIfInBounds_toArray, List.set_cons_zero, List.set_cons_succ]
        refine takeH_op (i := 1) (.bool s) (by exact rfl) (by kernel_rfl) (by kernel_rfl) (by kernel_rfl) (fun _ _ _ h => h) (fun w => by go_simp) hS ?_
        simp only [Act.put, List.setIfInBounds_toArray, List.set_cons_zero, List.set_cons_succ]
        refine takeH_op (i := 2) (.bool t) (by exact rfl) (by kernel_rfl) (by kernel_rfl) (by kernel_rfl) (fun _ _ _ h => h) (fun w => by go_simp) hS ?_
        simp only [Act.put, List.setIfInBounds_toArray, List.set_cons_zero, List.set_cons_succ]
        refine takeH_op (i := 3) (.bool (s != t)) (by exact rfl) (by kernel_rfl) (by kernel_rfl) (by kernel_rfl) (fun _ _ _ h => h) (fun w => by go_simp; cases s <;> cases t <;> rfl) hS ?_
        simp only [Act.put, List.setIfInBounds_toArray, List.set_cons_zero, List.set_cons_succ]
        refine takeH_load 37 b20 0 (big RR) _ (i := 4) (by exact rfl) (by kernel_rfl) (by kernel_rfl) (by kernel_rfl) (fun _ _ _ h => h) (by go_simp) (fun w' h => h.2.range) Try.underlying37 rfl (size37 _) hS ?_
        simp only [Act.put, List.setIfInBounds_toArray, List.set_cons_zero, List.set_cons_succ]
        refine takeH_op (i := 5) (.agg (big 0).toArray) (by exact rfl) (by kernel_rfl) (by kernel_rfl) (by kernel_rfl) (fun _ _ _ h => h) (fun w => by go_simp) hS ?_
        simp only [Act.put, List.setIfInBounds_toArray, List.set_cons_zero, List.set_cons_succ]
        refine takeH_op (i := 6) (.bool m) (by exact rfl) (by kernel_rfl) (by kernel_rfl) (by kernel_rfl) (fun _ _ _ h => h) (exec_neq RR m (by rfl) (by rfl) hneq) hS ?_
        simp only [Act.put, List.setIfInBounds_toArray, List.set_cons_zero, List.set_cons_succ]
        refine wpAnyH_ready (rs := [7]) (by kernel_rfl) (by simp) ?_
        refine readyH_call 27 _ _ #[.agg (big QQ).toArray, .bool (s != t), .bool m] (by exact rfl) (by go_simp) (by go_simp) ?_ AllReadyH.nil
        refine (h27.out _).mono ?_
        rintro e wz ⟨rfl, hbz⟩
        have hSz : Blk wz b17 (big QQ) 37 ∧ Blk wz b20 (big RR) 37 := ⟨hS.1.below hbz hS.1.lt, hS.2.below hbz hS.2.lt⟩
        refine ⟨_, rfl, hSz, ?_⟩
        simp only [Act.put, List.setIfInBounds_toArray, List.set_cons_zero, List.set_cons_succ]
        refine takeH_op (i := 8) (.int .i64 V) (by exact rfl) (by kernel_rfl) (by kernel_rfl) (by kernel_rfl) (fun _ _ _ h => h) (fun w => by go_simp) hSz ?_
        simp only [Act.put, List.setIfInBounds_toArray, List.set_cons_zero, List.set_cons_succ]
        refine takeH_op (i := 9) (.int .i64 0) (by exact rfl) (by kernel_rfl) (by kernel_rfl) (by kernel_rfl) (fun _ _ _ h => h) (fun w => by go_simp) hSz ?_
        simp only [Act.put, List.setIfInBounds_toArray, List.set_cons_zero, List.set_cons_succ]
        refine wpAnyH_done (by kernel_rfl) ?_ _
        go_wp2
        go_ret2
        exact ⟨rfl, hE.out.trans (hbz.mono hE.out.size)⟩
      refine readyH_alloc 37 (big 0) zv37 (by exact rfl) T18.allocQ.s ?_ AllReadyH.nil
      have T21 := T18.allocQ
      simp only [Act.put, List.setIfInBounds_toArray, List.set_cons_zero, List.set_cons_succ]
      generalize w18.alloc (.cells (big 0).toArray 37) = w21 at *
      generalize w18.heap.size = b21 at *
      refine wpAnyH_ready (rs := [3]) (by kernel_rfl) (by simp) ?_
      refine readyH_call 34 _ _ #[.agg (big XY).toArray, .agg (big Y).toArray] (by exact rfl) (by go_simp) (by go_simp) ?_ AllReadyH.nil
      refine (h34.out _).mono ?_
      rintro e w22 ⟨rfl, hb22⟩
      have T22 := T21.call hb22
      refine ⟨_, rfl, T22.s, ?_⟩
      simp only [Act.put, List.setIfInBounds_toArray, List.set_cons_zero, List.set_cons_succ]
      refine takeH_op (i := 4) (.tuple #[.agg (big QQ).toArray, .agg (big RR).toArray]) (by exact rfl) (by kernel_rfl) (by kernel_rfl) (by kernel_rfl) (fun _ _ _ h => h) (fun w => by go_simp) T22.s ?_
      simp only [Act.put, List.setIfInBounds_toArray, List.set_cons_zero, List.set_cons_succ]
      refine takeH_op (i := 5) (.agg (big QQ).toArray) (by exact rfl) (by kernel_rfl) (by kernel_rfl) (by kernel_rfl) (fun _ _ _ h => h) (fun w => by go_simp) T22.s ?_
      simp only [Act.put, List.setIfInBounds_toArray, List.set_cons_zero, List.set_cons_succ]
      refine takeH_op (i := 6) (.agg (big RR).toArray) (by exact rfl) (by kernel_rfl) (by kernel_rfl) (by kernel_rfl) (fun _ _ _ h => h) (fun w => by go_simp) T22.s ?_
      simp only [Act.put, List.setIfInBounds_toArray, List.set_cons_zero, List.set_cons_succ]
      have F := T22.stores QQ RR
      refine wpAnyH_ready (rs := [9]) (by kernel_rfl) (by simp) ?_
      refine readyH_store 37 b17 0 (big QQ) (by exact rfl) (by go_simp) (by go_simp) F.1 (size37 _) (big_oneCell _) F.2.1 ?_ AllReadyH.nil
      simp only [Act.put]
      refine wpAnyH_ready (rs := [10]) (by kernel_rfl) (by simp) ?_
      refine readyH_store 37 b21 0 (big RR) (by exact rfl) (by go_simp) (by go_simp) F.2.2.1 (size37 _) (big_oneCell _) F.2.2.2.1 ?_ AllReadyH.nil
      simp only [Act.put]
      refine wpAnyH_done (by kernel_rfl) ?_ _
      have hB := F.2.2.2.2.1
      have hC := F.2.2.2.2.2.1
      have hE := hid F.2.2.2.2.2.2
      clear F T22
      generalize (w22.setCells b17 0 (big QQ)).setCells b21 0 (big RR) = WF at *
      go_wp2
      refine wp_region_held_drew (S := fun W' => Blk W' b17 (big QQ) 37 ∧ Blk W' b21 (big RR) 37) (by kernel_rfl) ⟨hB.drew, hC.drew⟩ fun hS => ?_
      replace hE := hid hE.out.drew
      clear hB hC
      generalize WF.drew = WG at *
      refine takeH_load 37 b17 0 (big QQ) _ (i := 0) (by exact rfl) (by kernel_rfl) (by kernel_rfl) (by kernel_rfl) (fun _ _ _ h => h) (by go_simp) (fun w' h => h.1.range) Try.underlying37 rfl (size37 _) hS ?_
      simp only [Act.put, List.setIfInBounds_toArray, List.set_cons_zero, List.set_cons_succ]
      refine takeH_op (i := 1) (.bool s) (by exact rfl) (by kernel_rfl) (by kernel_rfl) (by kernel_rfl) (fun _ _ _ h => h) (fun w => by go_simp) hS ?_
      simp only [Act.put, List.setIfInBounds_toArray, List.set_cons_zero, List.set_cons_succ]
      refine takeH_op (i := 2) (.bool t) (by exact rfl) (by kernel_rfl) (by kernel_rfl) (by kernel_rfl) (fun _ _ _ h => h) (fun w => by go_simp) hS ?_
      simp only [Act.put, List.setIfInBounds_toArray, List.set_cons_zero, List.set_cons_succ]
      refine takeH_op (i := 3) (.bool (s != t)) (by exact rfl) (by kernel_rfl) (by kernel_rfl) (by kernel_rfl) (fun _ _ _ h => h) (fun w => by go_simp; cases s <;> cases t <;> rfl) hS ?_
      simp only [Act.put, List.setIfInBounds_toArray, List.set_cons_zero, List.set_cons_succ]
      refine takeH_load 37 b21 0 (big RR) _ (i := 4) (by exact rfl) (by kernel_rfl) (by kernel_rfl) (by kernel_rfl) (fun _ _ _ h => h) (by go_simp) (fun w' h => h.2.range) Try.underlying37 rfl (size37 _) hS ?_
      simp only [Act.put, List.setIfInBounds_toArray, List.set_cons_zero, List.set_cons_succ]
      refine takeH_op (i := 5) (.agg (big 0).toArray) (by exact rfl) (by kernel_rfl) (by kernel_rfl) (by kernel_rfl) (fun _ _ _ h => h) (fun w => by go_simp) hS ?_
      simp only [Act.put, List.setIfInBounds_toArray, List.set_cons_zero, List.set_cons_succ]
      refine takeH_op (i := 6) (.bool m) (by exact rfl) (by kernel_rfl) (by kernel_rfl) (by kernel_rfl) (fun _ _ _ h => h) (exec_neq RR m (by rfl) (by rfl) hneq) hS ?_
      simp only [Act.put, List.setIfInBounds_toArray, List.set_cons_zero, List.set_cons_succ]
      refine wpAnyH_ready (rs := [7]) (by kernel_rfl) (by simp) ?_
      refine readyH_call 27 _ _ #[.agg (big QQ).toArray, .bool (s != t), .bool m] (by exact rfl) (by go_simp) (by go_simp) ?_ AllReadyH.nil
      refine (h27.out _).mono ?_
      rintro e wz ⟨rfl, hbz⟩
      have hSz : Blk wz b17 (big QQ) 37 ∧ Blk wz b21 (big RR) 37 := ⟨hS.1.below hbz hS.1.lt, hS.2.below hbz hS.2.lt⟩
      refine ⟨_, rfl, hSz, ?_⟩
      simp only [Act.put, List.setIfInBounds_toArray, List.set_cons_zero, List.set_cons_succ]
      refine takeH_op (i := 8) (.int .i64 V) (by exact rfl) (by kernel_rfl) (by kernel_rfl) (by kernel_rfl) (fun _ _ _ h => h) (fun w => by go_simp) hSz ?_
      simp only [Act.put, List.setIfInBounds_toArray, List.set_cons_zero, List.set_cons_succ]
      refine takeH_op (i := 9) (.int .i64 0) (by exact rfl) (by kernel_rfl) (by kernel_rfl) (by kernel_rfl) (fun _ _ _ h => h) (fun w => by go_simp) hSz ?_
      simp only [Act.put, List.setIfInBounds_toArray, List.set_cons_zero, List.set_cons_succ]
      refine wpAnyH_done (by kernel_rfl) ?_ _
      go_wp2
      go_ret2
      exact ⟨rfl, hE.out.trans (hbz.mono hE.out.size)⟩
    refine readyH_alloc 37 (big 0) zv37 (by exact rfl) T17.allocQ.s ?_ AllReadyH.nil
    have T23 := T17.allocQ
    simp only [Act.put, List.setIfInBounds_toArray, List.set_cons_zero, List.set_cons_succ]
    generalize w17.alloc (.cells (big 0).toArray 37) = w23 at *
    generalize w17.heap.size = b23 at *
    refine wpAnyH_ready (rs := [1]) (by kernel_rfl) (by simp) ?_
    refine readyH_call 28 _ _ #[.agg (big X).toArray, .int .i64 32] (by exact rfl) (by go_simp) (by go_simp) ?_ AllReadyH.nil
    refine (h28.out _).mono ?_
    rintro e w24 ⟨rfl, hb24⟩
    have T24 := T23.call hb24
    refine ⟨_, rfl, T24.s, ?_⟩
    simp only [Act.put, List.setIfInBounds_toArray, List.set_cons_zero, List.set_cons_succ]
    refine wpAnyH_ready (rs := [3]) (by kernel_rfl) (by simp) ?_
    refine readyH_call 34 _ _ #[.agg (big XY).toArray, .agg (big Y).toArray] (by exact rfl) (by go_simp) (by go_simp) ?_ AllReadyH.nil
    refine (h34.out _).mono ?_
    rintro e w25 ⟨rfl, hb25⟩
    have T25 := T24.call hb25
    refine ⟨_, rfl, T25.s, ?_⟩
    simp only [Act.put, List.setIfInBounds_toArray, List.set_cons_zero, List.set_cons_succ]
    refine takeH_op (i := 4) (.tuple #[.agg (big QQ).toArray, .agg (big RR).toArray]) (by exact rfl) (by kernel_rfl) (by kernel_rfl) (by kernel_rfl) (fun _ _ _ h => h) (fun w => by go_simp) T25.s ?_
    simp only [Act.put, List.setIfInBounds_toArray, List.set_cons_zero, List.set_cons_succ]
    refine takeH_op (i := 5) (.agg (big QQ).toArray) (by exact rfl) (by kernel_rfl) (by kernel_rfl) (by kernel_rfl) (fun _ _ _ h => h) (fun w => by go_simp) T25.s ?_
    simp only [Act.put, List.setIfInBounds_toArray, List.set_cons_zero, List.set_cons_succ]
    refine takeH_op (i := 6) (.agg (big RR).toArray) (by exact rfl) (by kernel_rfl) (by kernel_rfl) (by kernel_rfl) (fun _ _ _ h => h) (fun w => by go_simp) T25.s ?_
    simp only [Act.put, List.setIfInBounds_toArray, List.set_cons_zero, List.set_cons_succ]
    have F := T25.stores QQ RR
    refine wpAnyH_ready (rs := [9]) (by kernel_rfl) (by simp) ?_
    refine readyH_store 37 b17 0 (big QQ) (by exact rfl) (by go_simp) (by go_simp) F.1 (size37 _) (big_oneCell _) F.2.1 ?_ AllReadyH.nil
    simp only [Act.put]
    refine wpAnyH_ready (rs := [10]) (by kernel_rfl) (by simp) ?_
    refine readyH_store 37 b23 0 (big RR) (by exact rfl) (by go_simp) (by go_simp) F.2.2.1 (size37 _) (big_oneCell _) F.2.2.2.1 ?_ AllReadyH.nil
    simp only [Act.put]
    refine wpAnyH_done (by kernel_rfl) ?_ _
    have hB := F.2.2.2.2.1
    have hC := F.2.2.2.2.2.1
    have hE := hid F.2.2.2.2.2.2
    clear F T25
    generalize (w25.setCells b17 0 (big QQ)).setCells b23 0 (big RR) = WF at *
    go_wp2
    refine wp_region_held_drew (S := fun W' => Blk W' b17 (big QQ) 37 ∧ Blk W' b23 (big RR) 37) (by kernel_rfl) ⟨hB.drew, hC.drew⟩ fun hS => ?_
    replace hE := hid hE.out.drew
    clear hB hC
    generalize WF.drew = WG at *
    refine takeH_load 37 b17 0 (big QQ) _ (i := 0) (by exact rfl) (by kernel_rfl) (by kernel_rfl) (by kernel_rfl) (fun _ _ _ h => h) (by go_simp) (fun w' h => h.1.range) Try.underlying37 rfl (size37 _) hS ?_
    simp only [Act.put, List.setIfInBounds_toArray, List.set_cons_zero, List.set_cons_succ]
    refine takeH_op (i := 1) (.bool s) (by exact rfl) (by kernel_rfl) (by kernel_rfl) (by kernel_rfl) (fun _ _ _ h => h) (fun w => by go_simp) hS ?_
    simp only [Act.put, List.setIfInBounds_toArray, List.set_cons_zero, List.set_cons_succ]
    refine takeH_op (i := 2) (.bool t) (by exact rfl) (by kernel_rfl) (by kernel_rfl) (by kernel_rfl) (fun _ _ _ h => h) (fun w => by go_simp) hS ?_
    simp only [Act.put, List.setIfInBounds_toArray, List.set_cons_zero, List.set_cons_succ]
    refine takeH_op (i := 3) (.bool (s != t)) (by exact rfl) (by kernel_rfl) (by kernel_rfl) (by kernel_rfl) (fun _ _ _ h => h) (fun w => by go_simp; cases s <;> cases t <;> rfl) hS ?_
    simp only [Act.put, List.setIfInBounds_toArray, List.set_cons_zero, List.set_cons_succ]
    refine takeH_load 37 b23 0 (big RR) _ (i := 4) (by exact rfl) (by kernel_rfl) (by kernel_rfl) (by kernel_rfl) (fun _ _ _ h => h) (by go_simp) (fun w' h => h.2.range) Try.underlying37 rfl (size37 _) hS ?_
    simp only [Act.put, List.setIfInBounds_toArray, List.set_cons_zero, List.set_cons_succ]
    refine takeH_op (i := 5) (.agg (big 0).toArray) (by exact rfl) (by kernel_rfl) (by kernel_rfl) (by kernel_rfl) (fun _ _ _ h => h) (fun w => by go_simp) hS ?_
    simp only [Act.put, List.setIfInBounds_toArray, List.set_cons_zero, List.set_cons_succ]
    refine takeH_op (i := 6) (.bool m) (by exact rfl) (by kernel_rfl) (by kernel_rfl) (by kernel_rfl) (fun _ _ _ h => h) (exec_neq RR m (by rfl) (by rfl) hneq) hS ?_
    simp only [Act.put, List.setIfInBounds_toArray, List.set_cons_zero, List.set_cons_succ]
    refine wpAnyH_ready (rs := [7]) (by kernel_rfl) (by simp) ?_
    refine readyH_call 27 _ _ #[.agg (big QQ).toArray, .bool (s != t), .bool m] (by exact rfl) (by go_simp) (by go_simp) ?_ AllReadyH.nil
    refine (h27.out _).mono ?_
    rintro e wz ⟨rfl, hbz⟩
    have hSz : Blk wz b17 (big QQ) 37 ∧ Blk wz b23 (big RR) 37 := ⟨hS.1.below hbz hS.1.lt, hS.2.below hbz hS.2.lt⟩
    refine ⟨_, rfl, hSz, ?_⟩
    simp only [Act.put, List.setIfInBounds_toArray, List.set_cons_zero, List.set_cons_succ]
    refine takeH_op (i := 8) (.int .i64 V) (by exact rfl) (by kernel_rfl) (by kernel_rfl) (by kernel_rfl) (fun _ _ _ h => h) (fun w => by go_simp) hSz ?_
    simp only [Act.put, List.setIfInBounds_toArray, List.set_cons_zero, List.set_cons_succ]
    refine takeH_op (i := 9) (.int .i64 0) (by exact rfl) (by kernel_rfl) (by kernel_rfl) (by kernel_rfl) (fun _ _ _ h => h) (fun w => by go_simp) hSz ?_
    simp only [Act.put, List.setIfInBounds_toArray, List.set_cons_zero, List.set_cons_succ]
    refine wpAnyH_done (by kernel_rfl) ?_ _
    go_wp2
    go_ret2
    exact ⟨rfl, hE.out.trans (hbz.mono hE.out.size)⟩
  refine readyH_alloc 37 (big 0) zv37 (by exact rfl) T0.allocQ.s ?_ AllReadyH.nil
  have T26 := T0.allocQ
  simp only [Act.put, List.setIfInBounds_toArray, List.set_cons_zero, List.set_cons_succ]
  generalize w0.alloc (.cells (big 0).toArray 37) = w26 at *
  generalize w0.heap.size = b26 at *
  refine wpAnyH_ready (rs := [1, 7]) (by kernel_rfl) (by simp) ?_
  refine readyH_call 28 _ _ #[.agg (big X).toArray, .int .i64 32] (by exact rfl) (by go_simp) (by go_simp) ?_ ?_
  · refine (h28.out _).mono ?_
    rintro e w27 ⟨rfl, hb27⟩
    have T27 := T26.call hb27
    refine ⟨_, rfl, T27.s, ?_⟩
    simp only [Act.put, List.setIfInBounds_toArray, List.set_cons_zero, List.set_cons_succ]
    refine wpAnyH_ready (rs := [3, 7]) (by kernel_rfl) (by simp) ?_
    refine readyH_call 34 _ _ #[.agg (big XY).toArray, .agg (big Y).toArray] (by exact rfl) (by go_simp) (by go_simp) ?_ ?_
    · refine (h34.out _).mono ?_
      rintro e w28 ⟨rfl, hb28⟩
      have T28 := T27.call hb28
      refine ⟨_, rfl, T28.s, ?_⟩
      simp only [Act.put, List.setIfInBounds_toArray, List.set_cons_zero, List.set_cons_succ]
      refine takeH_op (i := 4) (.tuple #[.agg (big QQ).toArray, .agg (big RR).toArray]) (by exact rfl) (by kernel_rfl) (by kernel_rfl) (by kernel_rfl) (fun _ _ _ h => h) (fun w => by go_simp) T28.s ?_
      simp only [Act.put, List.setIfInBounds_toArray, List.set_cons_zero, List.set_cons_succ]
      refine takeH_op (i := 5) (.agg (big QQ).toArray) (by exact rfl) (by kernel_rfl) (by kernel_rfl) (by kernel_rfl) (fun _ _ _ h => h) (fun w => by go_simp) T28.s ?_
      simp only [Act.put, List.setIfInBounds_toArray, List.set_cons_zero, List.set_cons_succ]
      refine takeH_op (i := 6) (.agg (big RR).toArray) (by exact rfl) (by kernel_rfl) (by kernel_rfl) (by kernel_rfl) (fun _ _ _ h => h) (fun w => by go_simp) T28.s ?_
      simp only [Act.put, List.setIfInBounds_toArray, List.set_cons_zero, List.set_cons_succ]
      refine wpAnyH_ready (rs := [7]) (by kernel_rfl) (by simp) ?_
      refine readyH_alloc 37 (big 0) zv37 (by exact rfl) T28.allocP.s ?_ AllReadyH.nil
      have T29 := T28.allocP
      simp only [Act.put, List.setIfInBounds_toArray, List.set_cons_zero, List.set_cons_succ]
      generalize w28.alloc (.cells (big 0).toArray 37) = w29 at *
      generalize w28.heap.size = b29 at *
      have F := T29.stores QQ RR
      refine wpAnyH_ready (rs := [9]) (by kernel_rfl) (by simp) ?_
      refine readyH_store 37 b29 0 (big QQ) (by exact rfl) (by go_simp) (by go_simp) F.1 (size37 _) (big_oneCell _) F.2.1 ?_ AllReadyH.nil
      simp only [Act.put]
      refine wpAnyH_ready (rs := [10]) (by kernel_rfl) (by simp) ?_
      refine readyH_store 37 b26 0 (big RR) (by exact rfl) (by go_simp) (by go_simp) F.2.2.1 (size37 _) (big_oneCell _) F.2.2.2.1 ?_ AllReadyH.nil
      simp only [Act.put]
      refine wpAnyH_done (by kernel_rfl) ?_ _
      have hB := F.2.2.2.2.1
      have hC := F.2.2.2.2.2.1
      have hE := hid F.2.2.2.2.2.2
      clear F T29
      generalize (w29.setCells b29 0 (big QQ)).setCells b26 0 (big RR) = WF at *
      go_wp2
      refine wp_region_held_drew (S := fun W' => Blk W' b29 (big QQ) 37 ∧ Blk W' b26 (big RR) 37) (by kernel_rfl) ⟨hB.drew, hC.drew⟩ fun hS => ?_
      replace hE := hid hE.out.drew
      clear hB hC
      generalize WF.drew = WG at *
      refine takeH_load 37 b29 0 (big QQ) _ (i := 0) (by exact rfl) (by kernel_rfl) (by kernel_rfl) (by kernel_rfl) (fun _ _ _ h => h) (by go_simp) (fun w' h => h.1.range) Try.underlying37 rfl (size37 _) hS ?_
      simp only [Act.put, List.setIfInBounds_toArray, List.set_cons_zero, List.set_cons_succ]
      refine takeH_op (i := 1) (.bool s) (by exact rfl) (by kernel_rfl) (by kernel_rfl) (by kernel_rfl) (fun _ _ _ h => h) (fun w => by go_simp) hS ?_
      simp only [Act.put, List.setIfInBounds_toArray, List.set_cons_zero, List.set_cons_succ]
      refine takeH_op (i := 2) (.bool t) (by exact rfl) (by kernel_rfl) (by kernel_rfl) (by kernel_rfl) (fun _ _ _ h => h) (fun w => by go_simp) hS ?_
      simp only [Act.put, List.setIfInBounds_toArray, List.set_cons_zero, List.set_cons_succ]
      refine takeH_op (i := 3) (.bool (s != t)) (by exact rfl) (by kernel_rfl) (by kernel_rfl) (by kernel_rfl) (fun _ _ _ h => h) (fun w => by go_simp; cases s <;> cases t <;> rfl) hS ?_
      simp only [Act.put, List.setIfInBounds_toArray, List.set_cons_zero, List.set_cons_succ]
      refine takeH_load 37 b26 0 (big RR) _ (i := 4) (by exact rfl) (by kernel_rfl) (by kernel_rfl) (by kernel_rfl) (fun _ _ _ h => h) (by go_simp) (fun w' h => h.2.range) Try.underlying37 rfl (size37 _) hS ?_
      simp only [Act.put, List.setIfInBounds_toArray, List.set_cons_zero, List.set_cons_succ]
      refine takeH_op (i := 5) (.agg (big 0).toArray) (by exact rfl) (by kernel_rfl) (by kernel_rfl) (by kernel_rfl) (fun _ _ _ h => h) (fun w => by go_simp) hS ?_
      simp only [Act.put, List.setIfInBounds_toArray, List.set_cons_zero, List.set_cons_succ]
      refine takeH_op (i := 6) (.bool m) (by exact rfl) (by kernel_rfl) (by kernel_rfl) (by kernel_rfl) (fun _ _ _ h => h) (exec_neq RR m (by rfl) (by rfl) hneq) hS ?_
      simp only [Act.put, List.setIfInBounds_toArray, List.set_cons_zero, List.set_cons_succ]
      refine wpAnyH_ready (rs := [7]) (by kernel_rfl) (by simp) ?_
      refine readyH_call 27 _ _ #[.agg (big QQ).toArray, .bool (s != t), .bool m] (by exact rfl) (by go_simp) (by go_simp) ?_ AllReadyH.nil
      refine (h27.out _).mono ?_
      rintro e wz ⟨rfl, hbz⟩
      have hSz : Blk wz b29 (big QQ) 37 ∧ Blk wz b26 (big RR) 37 := ⟨hS.1.below hbz hS.1.lt, hS.2.below hbz hS.2.lt⟩
      refine ⟨_, rfl, hSz, ?_⟩
      simp only [Act.put, List.setIfInBounds_toArray, List.set_cons_zero, List.set_cons_succ]
      refine takeH_op (i := 8) (.int .i64 V) (by exact rfl) (by kernel_rfl) (by kernel_rfl) (by kernel_rfl) (fun _ _ _ h => h) (fun w => by go_simp) hSz ?_
      simp only [Act.put, List.setIfInBounds_toArray, List.set_cons_zero, List.set_cons_succ]
      refine takeH_op (i := 9) (.int .i64 0) (by exact rfl) (by kernel_rfl) (by kernel_rfl) (by kernel_rfl) (fun _ _ _ h => h) (fun w => by go_simp) hSz ?_
      simp only [Act.put, List.setIfInBounds_toArray, List.set_cons_zero, List.set_cons_succ]
      refine wpAnyH_done (by kernel_rfl) ?_ _
      go_wp2
      go_ret2
      exact ⟨rfl, hE.out.trans (hbz.mono hE.out.size)⟩
    refine readyH_alloc 37 (big 0) zv37 (by exact rfl) T27.allocP.s ?_ AllReadyH.nil
    have T30 := T27.allocP
    simp only [Act.put, List.setIfInBounds_toArray, List.set_cons_zero, List.set_cons_succ]
    generalize w27.alloc (.cells (big 0).toArray 37) = w30 at *
    generalize w27.heap.size = b30 at *
    refine wpAnyH_ready (rs := [3]) (by kernel_rfl) (by simp) ?_
    refine readyH_call 34 _ _ #[.agg (big XY).toArray, .agg (big Y).toArray] (by exact rfl) (by go_simp) (by go_simp) ?_ AllReadyH.nil
    refine (h34.out _).mono ?_
    rintro e w31 ⟨rfl, hb31⟩
    have T31 := T30.call hb31
    refine ⟨_, rfl, T31.s, ?_⟩
    simp only [Act.put, List.setIfInBounds_toArray, List.set_cons_zero, List.set_cons_succ]
    refine takeH_op (i := 4) (.tuple #[.agg (big QQ).toArray, .agg (big RR).toArray]) (by exact rfl) (by kernel_rfl) (by kernel_rfl) (by kernel_rfl) (fun _ _ _ h => h) (fun w => by go_simp) T31.s ?_
    simp only [Act.put, List.setIfInBounds_toArray, List.set_cons_zero, List.set_cons_succ]
    refine takeH_op (i := 5) (.agg (big QQ).toArray) (by exact rfl) (by kernel_rfl) (by kernel_rfl) (by kernel_rfl) (fun _ _ _ h => h) (fun w => by go_simp) T31.s ?_
    simp only [Act.put, List.setIfInBounds_toArray, List.set_cons_zero, List.set_cons_succ]
    refine takeH_op (i := 6) (.agg (big RR).toArray) (by exact rfl) (by kernel_rfl) (by kernel_rfl) (by kernel_rfl) (fun _ _ _ h => h) (fun w => by go_simp) T31.s ?_
    simp only [Act.put, List.setIfInBounds_toArray, List.set_cons_zero, List.set_cons_succ]
    have F := T31.stores QQ RR
    refine wpAnyH_ready (rs := [9]) (by kernel_rfl) (by simp) ?_
    refine readyH_store 37 b30 0 (big QQ) (by exact rfl) (by go_simp) (by go_simp) F.1 (size37 _) (big_oneCell _) F.2.1 ?_ AllReadyH.nil
    simp only [Act.put]
    refine wpAnyH_ready (rs := [10]) (by kernel_rfl) (by simp) ?_
    refine readyH_store 37 b26 0 (big RR) (by exact rfl) (by go_simp) (by go_simp) F.2.2.1 (size37 _) (big_oneCell _) F.2.2.2.1 ?_ AllReadyH.nil
    simp only [Act.put]
    refine wpAnyH_done (by kernel_rfl) ?_ _
    have hB := F.2.2.2.2.1
    have hC := F.2.2.2.2.2.1
    have hE := hid F.2.2.2.2.2.2
    clear F T31
    generalize (w31.setCells b30 0 (big QQ)).setCells b26 0 (big RR) = WF at *
    go_wp2
    refine wp_region_held_drew (S := fun W' => Blk W' b30 (big QQ) 37 ∧ Blk W' b26 (big RR) 37) (by kernel_rfl) ⟨hB.drew, hC.drew⟩ fun hS => ?_
    replace hE := hid hE.out.drew
    clear hB hC
    generalize WF.drew = WG at *
    refine takeH_load 37 b30 0 (big QQ) _ (i := 0) (by exact rfl) (by kernel_rfl) (by kernel_rfl) (by kernel_rfl) (fun _ _ _ h => h) (by go_simp) (fun w' h => h.1.range) Try.underlying37 rfl (size37 _) hS ?_
    simp only [Act.put, List.setIfInBounds_toArray, List.set_cons_zero, List.set_cons_succ]
    refine takeH_op (i := 1) (.bool s) (by exact rfl) (by kernel_rfl) (by kernel_rfl) (by kernel_rfl) (fun _ _ _ h => h) (fun w => by go_simp) hS ?_
    simp only [Act.put, List.setIfInBounds_toArray, List.set_cons_zero, List.set_cons_succ]
    refine takeH_op (i := 2) (.bool t) (by exact rfl) (by kernel_rfl) (by kernel_rfl) (by kernel_rfl) (fun _ _ _ h => h) (fun w => by go_simp) hS ?_
    simp only [Act.put, List.setIfInBounds_toArray, List.set_cons_zero, List.set_cons_succ]
    refine takeH_op (i := 3) (.bool (s != t)) (by exact rfl) (by kernel_rfl) (by kernel_rfl) (by kernel_rfl) (fun _ _ _ h => h) (fun w => by go_simp; cases s <;> cases t <;> rfl) hS ?_
    simp only [Act.put, List.setIfInBounds_toArray, List.set_cons_zero, List.set_cons_succ]
    refine takeH_load 37 b26 0 (big RR) _ (i := 4) (by exact rfl) (by kernel_rfl) (by kernel_rfl) (by kernel_rfl) (fun _ _ _ h => h) (by go_simp) (fun w' h => h.2.range) Try.underlying37 rfl (size37 _) hS ?_
    simp only [Act.put, List.setIfInBounds_toArray, List.set_cons_zero, List.set_cons_succ]
    refine takeH_op (i := 5) (.agg (big 0).toArray) (by exact rfl) (by kernel_rfl) (by kernel_rfl) (by kernel_rfl) (fun _ _ _ h => h) (fun w => by go_simp) hS ?_
    simp only [Act.put, List.setIfInBounds_toArray, List.set_cons_zero, List.set_cons_succ]
    refine takeH_op (i := 6) (.bool m) (by exact rfl) (by kernel_rfl) (by kernel_rfl) (by kernel_rfl) (fun _ _ _ h => h) (exec_neq RR m (by rfl) (by rfl) hneq) hS ?_
    simp only [Act.put, List.setIfInBounds_toArray, List.set_cons_zero, List.set_cons_succ]
    refine wpAnyH_ready (rs := [7]) (by kernel_rfl) (by simp) ?_
    refine readyH_call 27 _ _ #[.agg (big QQ).toArray, .bool (s != t), .bool m] (by exact rfl) (by go_simp) (by go_simp) ?_ AllReadyH.nil
    refine (h27.out _).mono ?_
    rintro e wz ⟨rfl, hbz⟩
    have hSz : Blk wz b30 (big QQ) 37 ∧ Blk wz b26 (big RR) 37 := ⟨hS.1.below hbz hS.1.lt, hS.2.below hbz hS.2.lt⟩
    refine ⟨_, rfl, hSz, ?_⟩
    simp only [Act.put, List.setIfInBounds_toArray, List.set_cons_zero, List.set_cons_succ]
    refine takeH_op (i := 8) (.int .i64 V) (by exact rfl) (by kernel_rfl) (by kernel_rfl) (by kernel_rfl) (fun _ _ _ h => h) (fun w => by go_simp) hSz ?_
    simp only [Act.put, List.setIfInBounds_toArray, List.set_cons_zero, List.set_cons_succ]
    refine takeH_op (i := 9) (.int .i64 0) (by exact rfl) (by kernel_rfl) (by kernel_rfl) (by kernel_rfl) (fun _ _ _ h => h) (fun w => by go_simp) hSz ?_
    simp only [Act.put, List.setIfInBounds_toArray, List.set_cons_zero, List.set_cons_succ]
    refine wpAnyH_done (by kernel_rfl) ?_ _
    go_wp2
    go_ret2
    exact ⟨rfl, hE.out.trans (hbz.mono hE.out.size)⟩
  refine readyH_alloc 37 (big 0) zv37 (by exact rfl) T26.allocP.s ?_ AllReadyH.nil
  have T32 := T26.allocP
  simp only [Act.put, List.setIfInBounds_toArray, List.set_cons_zero, List.set_cons_succ]
  generalize w26.alloc (.cells (big 0).toArray 37) = w32 at *
  generalize w26.heap.size = b32 at *
  refine wpAnyH_ready (rs := [1]) (by kernel_rfl) (by simp) ?_
  refine readyH_call 28 _ _ #[.agg (big X).toArray, .int .i64 32] (by exact rfl) (by go_simp) (by go_simp) ?_ AllReadyH.nil
  refine (h28.out _).mono ?_
  rintro e w33 ⟨rfl, hb33⟩
  have T33 := T32.call hb33
  refine ⟨_, rfl, T33.s, ?_⟩
  simp only [Act.put, List.setIfInBounds_toArray, List.set_cons_zero, List.set_cons_succ]
  refine wpAnyH_ready (rs := [3]) (by kernel_rfl) (by simp) ?_
  refine readyH_call 34 _ _ #[.agg (big XY).toArray, .agg (big Y).toArray] (by exact rfl) (by go_simp) (by go_simp) ?_ AllReadyH.nil
  refine (h34.out _).mono ?_
  rintro e w34 ⟨rfl, hb34⟩
  have T34 := T33.call hb34
  refine ⟨_, rfl, T34.s, ?_⟩
  simp only [Act.put, List.setIfInBounds_toArray, List.set_cons_zero, List.set_cons_succ]
  refine takeH_op (i := 4) (.tuple #[.agg (big QQ).toArray, .agg (big RR).toArray]) (by exact rfl) (by kernel_rfl) (by kernel_rfl) (by kernel_rfl) (fun _ _ _ h => h) (fun w => by go_simp) T34.s ?_
  simp only [Act.put, List.setIfInBounds_toArray, List.set_cons_zero, List.set_cons_succ]
  refine takeH_op (i := 5) (.agg (big QQ).toArray) (by exact rfl) (by kernel_rfl) (by kernel_rfl) (by kernel_rfl) (fun _ _ _ h => h) (fun w => by go_simp) T34.s ?_
  simp only [Act.put, List.setIfInBounds_toArray, List.set_cons_zero, List.set_cons_succ]
  refine takeH_op (i := 6) (.agg (big RR).toArray) (by exact rfl) (by kernel_rfl) (by kernel_rfl) (by kernel_rfl) (fun _ _ _ h => h) (fun w => by go_simp) T34.s ?_
  simp only [Act.put, List.setIfInBounds_toArray, List.set_cons_zero, List.set_cons_succ]
  have F := T34.stores QQ RR
  refine wpAnyH_ready (rs := [9]) (by kernel_rfl) (by simp) ?_
  refine readyH_store 37 b32 0 (big QQ) (by exact rfl) (by go_simp) (by go_simp) F.1 (size37 _) (big_oneCell _) F.2.1 ?_ AllReadyH.nil
  simp only [Act.put]
  refine wpAnyH_ready (rs := [10]) (by kernel_rfl) (by simp) ?_
  refine readyH_store 37 b26 0 (big RR) (by exact rfl) (by go_simp) (by go_simp) F.2.2.1 (size37 _) (big_oneCell _) F.2.2.2.1 ?_ AllReadyH.nil
  simp only [Act.put]
  refine wpAnyH_done (by kernel_rfl) ?_ _
  have hB := F.2.2.2.2.1
  have hC := F.2.2.2.2.2.1
  have hE := hid F.2.2.2.2.2.2
  clear F T34
  generalize (w34.setCells b32 0 (big QQ)).setCells b26 0 (big RR) = WF at *
  go_wp2
  refine wp_region_held_drew (S := fun W' => Blk W' b32 (big QQ) 37 ∧ Blk W' b26 (big RR) 37) (by kernel_rfl) ⟨hB.drew, hC.drew⟩ fun hS => ?_
  replace hE := hid hE.out.drew
  clear hB hC
  generalize WF.drew = WG at *
  refine takeH_load 37 b32 0 (big QQ) _ (i := 0) (by exact rfl) (by kernel_rfl) (by kernel_rfl) (by kernel_rfl) (fun _ _ _ h => h) (by go_simp) (fun w' h => h.1.range) Try.underlying37 rfl (size37 _) hS ?_
  simp only [Act.put, List.setIfInBounds_toArray, List.set_cons_zero, List.set_cons_succ]
  refine takeH_op (i := 1) (.bool s) (by exact rfl) (by kernel_rfl) (by kernel_rfl) (by kernel_rfl) (fun _ _ _ h => h) (fun w => by go_simp) hS ?_
  simp only [Act.put, List.setIfInBounds_toArray, List.set_cons_zero, List.set_cons_succ]
  refine takeH_op (i := 2) (.bool t) (by exact rfl) (by kernel_rfl) (by kernel_rfl) (by kernel_rfl) (fun _ _ _ h => h) (fun w => by go_simp) hS ?_
  simp only [Act.put, List.setIfInBounds_toArray, List.set_cons_zero, List.set_cons_succ]
  refine takeH_op (i := 3) (.bool (s != t)) (by exact rfl) (by kernel_rfl) (by kernel_rfl) (by kernel_rfl) (fun _ _ _ h => h) (fun w => by go_simp; cases s <;> cases t <;> rfl) hS ?_
  simp only [Act.put, List.setIfInBounds_toArray, List.set_cons_zero, List.set_cons_succ]
  refine takeH_load 37 b26 0 (big RR) _ (i := 4) (by exact rfl) (by kernel_rfl) (by kernel_rfl) (by kernel_rfl) (fun _ _ _ h => h) (by go_simp) (fun w' h => h.2.range) Try.underlying37 rfl (size37 _) hS ?_
  simp only [Act.put, List.setIfInBounds_toArray, List.set_cons_zero, List.set_cons_succ]
  refine takeH_op (i := 5) (.agg (big 0).toArray) (by exact rfl) (by kernel_rfl) (by kernel_rfl) (by kernel_rfl) (fun _ _ _ h => h) (fun w => by go_simp) hS ?_
  simp only [Act.put, List.setIfInBounds_toArray, List.set_cons_zero, List.set_cons_succ]
  refine takeH_op (i := 6) (.bool m) (by exact rfl) (by kernel_rfl) (by kernel_rfl) (by kernel_rfl) (fun _ _ _ h => h) (exec_neq RR m (by rfl) (by rfl) hneq) hS ?_
  simp only [Act.put, List.setIfInBounds_toArray, List.set_cons_zero, List.set_cons_succ]
  refine wpAnyH_ready (rs := [7]) (by kernel_rfl) (by simp) ?_
  refine readyH_call 27 _ _ #[.agg (big QQ).toArray, .bool (s != t), .bool m] (by exact rfl) (by go_simp) (by go_simp) ?_ AllReadyH.nil
  refine (h27.out _).mono ?_
  rintro e wz ⟨rfl, hbz⟩
  have hSz : Blk wz b32 (big QQ) 37 ∧ Blk wz b26 (big RR) 37 := ⟨hS.1.below hbz hS.1.lt, hS.2.below hbz hS.2.lt⟩
  refine ⟨_, rfl, hSz, ?_⟩
  simp only [Act.put, List.setIfInBounds_toArray, List.set_cons_zero, List.set_cons_succ]
  refine takeH_op (i := 8) (.int .i64 V) (by exact rfl) (by kernel_rfl) (by kernel_rfl) (by kernel_rfl) (fun _ _ _ h => h) (fun w => by go_simp) hSz ?_
  simp only [Act.put, List.setIfInBounds_toArray, List.set_cons_zero, List.set_cons_succ]
  refine takeH_op (i := 9) (.int .i64 0) (by exact rfl) (by kernel_rfl) (by kernel_rfl) (by kernel_rfl) (fun _ _ _ h => h) (fun w => by go_simp) hSz ?_
  simp only [Act.put, List.setIfInBounds_toArray, List.set_cons_zero, List.set_cons_succ]
  refine wpAnyH_done (by kernel_rfl) ?_ _
  go_wp2
  go_ret2
  exact ⟨rfl, hE.out.trans (hbz.mono hE.out.size)⟩
end Go.Proofs.Ytdfobaggdeoggaa
