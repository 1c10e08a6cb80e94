/- The reference's reader: command 97. -/
import Derived.Test.YtpiflgbcbhnmpaaRfd
import Derived.Test.YtpiflgbcbhnmpaaRnam
namespace Go.Proofs.Ytpiflgbcbhnmpaa
open Go.RowKit
theorem num_sr {w0 w : World} {rb B : Nat} {ty : TypeId} {z l : List Value} {s : S2} (h : Sr w0 w rb B ty z l s) (hg : Gd s) (most : Nat) (hm : most < 9223372036854775808) (lim : Int) (hl : (most : Int) + 1 = lim) :
    Calls Try.prog 75 #[.pointer (some ⟨rb, 0, none⟩), .int .u64 lim] w fun e w' => e = .returned (.int .u64 ((pN most s).1 : Int)) ∧ Sr w0 w' rb B ty z l (pN most s).2 ∧ Only rb w w' := by
  subst hl
  exact (number75 rb most hm s hg w h.rd).mono fun _ _ ⟨he, hr, ho⟩ => ⟨he, h.call ho hr, ho⟩
theorem dig_sr {w0 w : World} {rb B : Nat} {ty : TypeId} {z l : List Value} {s : S2} (h : Sr w0 w rb B ty z l s) (hg : Gd s) :
    Calls Try.prog 76 #[.pointer (some ⟨rb, 0, none⟩)] w fun e w' => e = .returned (.agg ((pD s).1.map By).toArray) ∧ Sr w0 w' rb B ty z l (pD s).2 ∧ Only rb w w' :=
  (digest76 rb s hg w h.rd).mono fun _ _ ⟨he, hr, ho⟩ => ⟨he, h.call ho hr, ho⟩
theorem pN_le (most : Nat) (s : S2) : (pN most s).1 ≤ most := pNum_le
theorem pCmd_gd {s : S2} (h : Gd s) : Gd (pCmd s).2 := by
  unfold pCmd
  have h1 := pN_gd h 6
  generalize pN 6 s = k at *
  simp only
  have h2 : Gd (if nU (k.1 : Int) then pN 2147483647 k.2 else (0, k.2)).2 := by split; exact pN_gd h1 _; exact h1
  generalize (if nU (k.1 : Int) then pN 2147483647 k.2 else (0, k.2)) = u at *
  have h3 : Gd (if nT (k.1 : Int) then pN 2147483647 u.2 else (0, u.2)).2 := by split; exact pN_gd h2 _; exact h2
  generalize (if nT (k.1 : Int) then pN 2147483647 u.2 else (0, u.2)) = t at *
  have h4 : Gd (if nW (k.1 : Int) then pN 4 t.2 else (0, t.2)).2 := by split; exact pN_gd h3 _; exact h3
  generalize (if nW (k.1 : Int) then pN 4 t.2 else (0, t.2)) = hh at *
  have h5 : Gd (if nC (k.1 : Int) then pN 19 hh.2 else (0, hh.2)).2 := by split; exact pN_gd h4 _; exact h4
  generalize (if nC (k.1 : Int) then pN 19 hh.2 else (0, hh.2)) = x at *
  split
  · exact pN_gd h5 _
  · exact h5
theorem size52r : (Try.prog.info? 52).map (·.size) = some 6 := by kernel_rfl
theorem one6 (a b c d e f : Int) : ∀ v ∈ [Value.int .i64 a, .int .i64 b, .int .i64 c, .int .i64 d, .int .i64 e, .int .i64 f], v.oneCell' = true := by
  intro v hv
  simp only [List.mem_cons, List.not_mem_nil, or_false] at hv
  rcases hv with rfl | rfl | rfl | rfl | rfl | rfl <;> rfl
set_option maxRecDepth 100000 in
set_option maxHeartbeats 4000000 in
theorem command97 (rb : Nat) (s : S2) (hg : Gd s) (w : World) (h : RfAt w rb s) :
    Calls Try.prog 97 #[.pointer (some ⟨rb, 0, none⟩)] w fun e w' => RfOk w rb (pCmd s).1.val (pCmd s).2 e w' := by
  have hS := hid (Sr.start (z := [Value.int .i64 0, .int .i64 0, .int .i64 0, .int .i64 0, .int .i64 0, .int .i64 0]) (ty := 52) h (by decide))
  have hnm : Hid (∀ k W, Calls Try.prog 58 #[.int .i64 k] W fun e w' => e = .returned (.tuple #[.bool (nU k), .bool (nT k), .bool (nW k), .bool (nC k)]) ∧ w' = W) := fun k W => names58 k W
  unfold RfOk pCmd
  obtain ⟨k, s1, hk⟩ : ∃ k s1, pN 6 s = (k, s1) := ⟨_, _, rfl⟩
  have hc1 := hid (num_sr hS.out hg 6 (by omega) 7 (by rfl))
  have hk6 : (k : Int) ≤ 6 := by have := pN_le 6 s; rw [hk] at this; simp only at this; omega
  have hg1 := pN_gd hg 6
  simp only [hk] at hc1 hg1 ⊢
  have HG1 := hid hg1
  have hcase : (nU (k : Int) = true ∧ nT (k : Int) = false ∧ nW (k : Int) = false ∧ nC (k : Int) = true) ∨ (nU (k : Int) = true ∧ nT (k : Int) = true ∧ nW (k : Int) = false ∧ nC (k : Int) = false) ∨ (nU (k : Int) = true ∧ nT (k : Int) = false ∧ nW (k : Int) = true ∧ nC (k : Int) = false) ∨ (nU (k : Int) = true ∧ nT (k : Int) = false ∧ nW (k : Int) = false ∧ nC (k : Int) = false) ∨ (nU (k : Int) = false ∧ nT (k : Int) = false ∧ nW (k : Int) = false ∧ nC (k : Int) = false) := by
    have hc : (k : Int) = 1 ∨ (k : Int) = 2 ∨ (k : Int) = 3 ∨ (k : Int) = 4 ∨ (k : Int) = 5 ∨ (((k : Int) == 1) = false ∧ ((k : Int) == 2) = false ∧ ((k : Int) == 3) = false ∧ ((k : Int) == 4) = false ∧ ((k : Int) == 5) = false) := by simp; omega
    rcases hc with h | h | h | h | h | ⟨h1, h2, h3, h4, h5⟩
    case' inr.inr.inr.inr.inr => simp [nU, nT, nW, nC, h1, h2, h3, h4, h5]
    all_goals
      rw [h]
      decide
  have hnk := hid (hnm.out (k : Int))
  clear hnm hS h hg hg1 hk
  rcases hcase with ⟨q1, q2, q3, q4⟩ | ⟨q1, q2, q3, q4⟩ | ⟨q1, q2, q3, q4⟩ | ⟨q1, q2, q3, q4⟩ | ⟨q1, q2, q3, q4⟩
  · simp only [q1, q2, q3, q4, if_true, Bool.false_eq_true, if_false]
    simp only [q1, q2, q3, q4] at hnk
    clear q1 q2 q3 q4
    obtain ⟨u, s2, hk0⟩ : ∃ a b, pN 2147483647 s1 = (a, b) := ⟨_, _, rfl⟩
    have K0 : Hid (∀ l W, Sr w W rb w.heap.size 52 [Value.int .i64 0, .int .i64 0, .int .i64 0, .int .i64 0, .int .i64 0, .int .i64 0] l s1 → Calls Try.prog 75 #[.pointer (some ⟨rb, 0, none⟩), .int .u64 2147483648] W fun e w' => e = .returned (.int .u64 (u : Int)) ∧ Sr w w' rb w.heap.size 52 [Value.int .i64 0, .int .i64 0, .int .i64 0, .int .i64 0, .int .i64 0, .int .i64 0] l s2 ∧ Only rb W w') := fun l W h => by
      have h9 := num_sr h HG1.out 2147483647 (by omega) 2147483648 (by rfl)
      rw [hk0] at h9; exact h9
    have G0 : Hid (Gd s2) := by have := pN_gd HG1.out 2147483647; rw [hk0] at this; exact hid this
    have hl0 : (u : Int) ≤ 2147483647 := by have := pN_le 2147483647 s1; rw [hk0] at this; simp only at this; omega
    simp only [hk0]
    clear hk0
    obtain ⟨v, s3, hk1⟩ : ∃ a b, pN 19 s2 = (a, b) := ⟨_, _, rfl⟩
    have K1 : Hid (∀ l W, Sr w W rb w.heap.size 52 [Value.int .i64 0, .int .i64 0, .int .i64 0, .int .i64 0, .int .i64 0, .int .i64 0] l s2 → Calls Try.prog 75 #[.pointer (some ⟨rb, 0, none⟩), .int .u64 20] W fun e w' => e = .returned (.int .u64 (v : Int)) ∧ Sr w w' rb w.heap.size 52 [Value.int .i64 0, .int .i64 0, .int .i64 0, .int .i64 0, .int .i64 0, .int .i64 0] l s3 ∧ Only rb W w') := fun l W h => by
      have h9 := num_sr h G0.out 19 (by omega) 20 (by rfl)
      rw [hk1] at h9; exact h9
    have G1 : Hid (Gd s3) := by have := pN_gd G0.out 19; rw [hk1] at this; exact hid this
    have hl1 : (v : Int) ≤ 19 := by have := pN_le 19 s2; rw [hk1] at this; simp only at this; omega
    simp only [hk1]
    clear hk1
    obtain ⟨x, s4, hk2⟩ : ∃ a b, pN 19 s3 = (a, b) := ⟨_, _, rfl⟩
    have K2 : Hid (∀ l W, Sr w W rb w.heap.size 52 [Value.int .i64 0, .int .i64 0, .int .i64 0, .int .i64 0, .int .i64 0, .int .i64 0] l s3 → Calls Try.prog 75 #[.pointer (some ⟨rb, 0, none⟩), .int .u64 20] W fun e w' => e = .returned (.int .u64 (x : Int)) ∧ Sr w w' rb w.heap.size 52 [Value.int .i64 0, .int .i64 0, .int .i64 0, .int .i64 0, .int .i64 0, .int .i64 0] l s4 ∧ Only rb W w') := fun l W h => by
      have h9 := num_sr h G1.out 19 (by omega) 20 (by rfl)
      rw [hk2] at h9; exact h9
    have G2 : Hid (Gd s4) := by have := pN_gd G1.out 19; rw [hk2] at this; exact hid this
    have hl2 : (x : Int) ≤ 19 := by have := pN_le 19 s3; rw [hk2] at this; simp only at this; omega
    simp only [hk2]
    clear hk2
    unfold C6.val cmd
    go_enter Try.func97, Try.ntmps97
    go_wp2_with fail
    refine Calls.mono hc1.out ?_
    rintro e w1 ⟨rfl, S1, O1⟩
    have c1 : w1.cell? ⟨w.heap.size + 1, 0, none⟩ = some (.int .i64 0) := S1.own.cell 0
    have f1 := S1.own.frozen 0
    have S2 : Hid (Sr w (w1.setCell ⟨w.heap.size + 1, 0, none⟩ (.int .i64 (k : Int))) rb w.heap.size 52 _ [.int .i64 (k : Int), .int .i64 0, .int .i64 0, .int .i64 0, .int .i64 0, .int .i64 0] s1) := S1.set 0 (.int .i64 (k : Int))
    clear S1 O1 hc1
    go_wp2_with fail
    refine Calls.mono (hnk.out _) ?_
    rintro e w2 ⟨rfl, rfl⟩
    clear hnk
    go_wp2_with fail
    refine Calls.mono (K0.out _ _ S2.out) ?_
    rintro e t0 ⟨rfl, T0, Q0⟩
    have d0 : t0.cell? ⟨w.heap.size + 1, 1, none⟩ = some (.int .i64 0) := T0.own.cell 1
    have y0 := T0.own.frozen 1
    have R0 : Hid (Sr w (t0.setCell ⟨w.heap.size + 1, 1, none⟩ (.int .i64 (u : Int))) rb w.heap.size 52 _ [.int .i64 (k : Int), .int .i64 (u : Int), .int .i64 0, .int .i64 0, .int .i64 0, .int .i64 0] s2) := T0.set 1 (.int .i64 (u : Int))
    clear T0 Q0 K0 S2 c1 f1
    go_wp2_with fail
    refine Calls.mono (K1.out _ _ R0.out) ?_
    rintro e t1 ⟨rfl, T1, Q1⟩
    have d1 : t1.cell? ⟨w.heap.size + 1, 4, none⟩ = some (.int .i64 0) := T1.own.cell 4
    have y1 := T1.own.frozen 4
    have R1 : Hid (Sr w (t1.setCell ⟨w.heap.size + 1, 4, none⟩ (.int .i64 (v : Int))) rb w.heap.size 52 _ [.int .i64 (k : Int), .int .i64 (u : Int), .int .i64 0, .int .i64 0, .int .i64 (v : Int), .int .i64 0] s3) := T1.set 4 (.int .i64 (v : Int))
    clear T1 Q1 K1 R0 d0 y0
    go_wp2_with fail
    refine Calls.mono (K2.out _ _ R1.out) ?_
    rintro e t2 ⟨rfl, T2, Q2⟩
    have d2 : t2.cell? ⟨w.heap.size + 1, 5, none⟩ = some (.int .i64 0) := T2.own.cell 5
    have y2 := T2.own.frozen 5
    have R2 : Hid (Sr w (t2.setCell ⟨w.heap.size + 1, 5, none⟩ (.int .i64 (x : Int))) rb w.heap.size 52 _ [.int .i64 (k : Int), .int .i64 (u : Int), .int .i64 0, .int .i64 0, .int .i64 (v : Int), .int .i64 (x : Int)] s4) := T2.set 5 (.int .i64 (x : Int))
    clear T2 Q2 K2 R1 d1 y1
    obtain ⟨E, hE⟩ : ∃ E : List Value, E = [.int .i64 (k : Int), .int .i64 (u : Int), .int .i64 0, .int .i64 0, .int .i64 (v : Int), .int .i64 (x : Int)] := ⟨_, rfl⟩
    have HE := hid (fun (_ : Nat) => hE)
    have hone : Hid (∀ v ∈ E, v.oneCell' = true) := by rw [hE]; exact hid (one6 _ _ _ _ _ _)
    have hi52 : (Try.prog.info? 52).map (·.size) = some E.length := by rw [hE]; exact size52r
    have S9 := R2
    rw [← hE] at S9
    have g1 := S9.out.own.range
    have g2 := S9.out.res.there 0 E.length (by rw [hE]; simp)
    obtain ⟨g3, g4, g5⟩ := S9.out.fin (by rw [hE]; rfl)
    clear hE R2 S9
    go_wp2_with (first
      | ((with_reducible refine wpL_load 52 (w.heap.size + 1) 0 E _ ?_ g1 Try.underlying52 ?_ hi52 ?_); (rfl); (rfl); (simp only [Act.put, List.setIfInBounds_toArray, List.set_cons_zero, List.set_cons_succ]))
      | ((with_reducible refine wpL_store 52 w.heap.size 0 E ?_ ?_ g2 hi52 hone.out ?_); (rfl); (rfl); (simp only [Act.put])))
    exact bodyPost_ret (results_array Try.results97 rfl g3 Try.underlying52 rfl hi52) rfl ⟨by rw [HE.out 0]; rfl, g4, g5⟩
  · simp only [q1, q2, q3, q4, if_true, Bool.false_eq_true, if_false]
    simp only [q1, q2, q3, q4] at hnk
    clear q1 q2 q3 q4
    obtain ⟨u, s2, hk0⟩ : ∃ a b, pN 2147483647 s1 = (a, b) := ⟨_, _, rfl⟩
    have K0 : Hid (∀ l W, Sr w W rb w.heap.size 52 [Value.int .i64 0, .int .i64 0, .int .i64 0, .int .i64 0, .int .i64 0, .int .i64 0] l s1 → Calls Try.prog 75 #[.pointer (some ⟨rb, 0, none⟩), .int .u64 2147483648] W fun e w' => e = .returned (.int .u64 (u : Int)) ∧ Sr w w' rb w.heap.size 52 [Value.int .i64 0, .int .i64 0, .int .i64 0, .int .i64 0, .int .i64 0, .int .i64 0] l s2 ∧ Only rb W w') := fun l W h => by
      have h9 := num_sr h HG1.out 2147483647 (by omega) 2147483648 (by rfl)
      rw [hk0] at h9; exact h9
    have G0 : Hid (Gd s2) := by have := pN_gd HG1.out 2147483647; rw [hk0] at this; exact hid this
    have hl0 : (u : Int) ≤ 2147483647 := by have := pN_le 2147483647 s1; rw [hk0] at this; simp only at this; omega
    simp only [hk0]
    clear hk0
    obtain ⟨v, s3, hk1⟩ : ∃ a b, pN 2147483647 s2 = (a, b) := ⟨_, _, rfl⟩
    have K1 : Hid (∀ l W, Sr w W rb w.heap.size 52 [Value.int .i64 0, .int .i64 0, .int .i64 0, .int .i64 0, .int .i64 0, .int .i64 0] l s2 → Calls Try.prog 75 #[.pointer (some ⟨rb, 0, none⟩), .int .u64 2147483648] W fun e w' => e = .returned (.int .u64 (v : Int)) ∧ Sr w w' rb w.heap.size 52 [Value.int .i64 0, .int .i64 0, .int .i64 0, .int .i64 0, .int .i64 0, .int .i64 0] l s3 ∧ Only rb W w') := fun l W h => by
      have h9 := num_sr h G0.out 2147483647 (by omega) 2147483648 (by rfl)
      rw [hk1] at h9; exact h9
    have G1 : Hid (Gd s3) := by have := pN_gd G0.out 2147483647; rw [hk1] at this; exact hid this
    have hl1 : (v : Int) ≤ 2147483647 := by have := pN_le 2147483647 s2; rw [hk1] at this; simp only at this; omega
    simp only [hk1]
    clear hk1
    unfold C6.val cmd
    go_enter Try.func97, Try.ntmps97
    go_wp2_with fail
    refine Calls.mono hc1.out ?_
    rintro e w1 ⟨rfl, S1, O1⟩
    have c1 : w1.cell? ⟨w.heap.size + 1, 0, none⟩ = some (.int .i64 0) := S1.own.cell 0
    have f1 := S1.own.frozen 0
    have S2 : Hid (Sr w (w1.setCell ⟨w.heap.size + 1, 0, none⟩ (.int .i64 (k : Int))) rb w.heap.size 52 _ [.int .i64 (k : Int), .int .i64 0, .int .i64 0, .int .i64 0, .int .i64 0, .int .i64 0] s1) := S1.set 0 (.int .i64 (k : Int))
    clear S1 O1 hc1
    go_wp2_with fail
    refine Calls.mono (hnk.out _) ?_
    rintro e w2 ⟨rfl, rfl⟩
    clear hnk
    go_wp2_with fail
    refine Calls.mono (K0.out _ _ S2.out) ?_
    rintro e t0 ⟨rfl, T0, Q0⟩
    have d0 : t0.cell? ⟨w.heap.size + 1, 1, none⟩ = some (.int .i64 0) := T0.own.cell 1
    have y0 := T0.own.frozen 1
    have R0 : Hid (Sr w (t0.setCell ⟨w.heap.size + 1, 1, none⟩ (.int .i64 (u : Int))) rb w.heap.size 52 _ [.int .i64 (k : Int), .int .i64 (u : Int), .int .i64 0, .int .i64 0, .int .i64 0, .int .i64 0] s2) := T0.set 1 (.int .i64 (u : Int))
    clear T0 Q0 K0 S2 c1 f1
    go_wp2_with fail
    refine Calls.mono (K1.out _ _ R0.out) ?_
    rintro e t1 ⟨rfl, T1, Q1⟩
    have d1 : t1.cell? ⟨w.heap.size + 1, 2, none⟩ = some (.int .i64 0) := T1.own.cell 2
    have y1 := T1.own.frozen 2
    have R1 : Hid (Sr w (t1.setCell ⟨w.heap.size + 1, 2, none⟩ (.int .i64 (v : Int))) rb w.heap.size 52 _ [.int .i64 (k : Int), .int .i64 (u : Int), .int .i64 (v : Int), .int .i64 0, .int .i64 0, .int .i64 0] s3) := T1.set 2 (.int .i64 (v : Int))
    clear T1 Q1 K1 R0 d0 y0
    obtain ⟨E, hE⟩ : ∃ E : List Value, E = [.int .i64 (k : Int), .int .i64 (u : Int), .int .i64 (v : Int), .int .i64 0, .int .i64 0, .int .i64 0] := ⟨_, rfl⟩
    have HE := hid (fun (_ : Nat) => hE)
    have hone : Hid (∀ v ∈ E, v.oneCell' = true) := by rw [hE]; exact hid (one6 _ _ _ _ _ _)
    have hi52 : (Try.prog.info? 52).map (·.size) = some E.length := by rw [hE]; exact size52r
    have S9 := R1
    rw [← hE] at S9
    have g1 := S9.out.own.range
    have g2 := S9.out.res.there 0 E.length (by rw [hE]; simp)
    obtain ⟨g3, g4, g5⟩ := S9.out.fin (by rw [hE]; rfl)
    clear hE R1 S9
    go_wp2_with (first
      | ((with_reducible refine wpL_load 52 (w.heap.size + 1) 0 E _ ?_ g1 Try.underlying52 ?_ hi52 ?_); (rfl); (rfl); (simp only [Act.put, List.setIfInBounds_toArray, List.set_cons_zero, List.set_cons_succ]))
      | ((with_reducible refine wpL_store 52 w.heap.size 0 E ?_ ?_ g2 hi52 hone.out ?_); (rfl); (rfl); (simp only [Act.put])))
    exact bodyPost_ret (results_array Try.results97 rfl g3 Try.underlying52 rfl hi52) rfl ⟨by rw [HE.out 0]; rfl, g4, g5⟩
  · simp only [q1, q2, q3, q4, if_true, Bool.false_eq_true, if_false]
    simp only [q1, q2, q3, q4] at hnk
    clear q1 q2 q3 q4
    obtain ⟨u, s2, hk0⟩ : ∃ a b, pN 2147483647 s1 = (a, b) := ⟨_, _, rfl⟩
    have K0 : Hid (∀ l W, Sr w W rb w.heap.size 52 [Value.int .i64 0, .int .i64 0, .int .i64 0, .int .i64 0, .int .i64 0, .int .i64 0] l s1 → Calls Try.prog 75 #[.pointer (some ⟨rb, 0, none⟩), .int .u64 2147483648] W fun e w' => e = .returned (.int .u64 (u : Int)) ∧ Sr w w' rb w.heap.size 52 [Value.int .i64 0, .int .i64 0, .int .i64 0, .int .i64 0, .int .i64 0, .int .i64 0] l s2 ∧ Only rb W w') := fun l W h => by
      have h9 := num_sr h HG1.out 2147483647 (by omega) 2147483648 (by rfl)
      rw [hk0] at h9; exact h9
    have G0 : Hid (Gd s2) := by have := pN_gd HG1.out 2147483647; rw [hk0] at this; exact hid this
    have hl0 : (u : Int) ≤ 2147483647 := by have := pN_le 2147483647 s1; rw [hk0] at this; simp only at this; omega
    simp only [hk0]
    clear hk0
    obtain ⟨v, s3, hk1⟩ : ∃ a b, pN 4 s2 = (a, b) := ⟨_, _, rfl⟩
    have K1 : Hid (∀ l W, Sr w W rb w.heap.size 52 [Value.int .i64 0, .int .i64 0, .int .i64 0, .int .i64 0, .int .i64 0, .int .i64 0] l s2 → Calls Try.prog 75 #[.pointer (some ⟨rb, 0, none⟩), .int .u64 5] W fun e w' => e = .returned (.int .u64 (v : Int)) ∧ Sr w w' rb w.heap.size 52 [Value.int .i64 0, .int .i64 0, .int .i64 0, .int .i64 0, .int .i64 0, .int .i64 0] l s3 ∧ Only rb W w') := fun l W h => by
      have h9 := num_sr h G0.out 4 (by omega) 5 (by rfl)
      rw [hk1] at h9; exact h9
    have G1 : Hid (Gd s3) := by have := pN_gd G0.out 4; rw [hk1] at this; exact hid this
    have hl1 : (v : Int) ≤ 4 := by have := pN_le 4 s2; rw [hk1] at this; simp only at this; omega
    simp only [hk1]
    clear hk1
    unfold C6.val cmd
    go_enter Try.func97, Try.ntmps97
    go_wp2_with fail
    refine Calls.mono hc1.out ?_
    rintro e w1 ⟨rfl, S1, O1⟩
    have c1 : w1.cell? ⟨w.heap.size + 1, 0, none⟩ = some (.int .i64 0) := S1.own.cell 0
    have f1 := S1.own.frozen 0
    have S2 : Hid (Sr w (w1.setCell ⟨w.heap.size + 1, 0, none⟩ (.int .i64 (k : Int))) rb w.heap.size 52 _ [.int .i64 (k : Int), .int .i64 0, .int .i64 0, .int .i64 0, .int .i64 0, .int .i64 0] s1) := S1.set 0 (.int .i64 (k : Int))
    clear S1 O1 hc1
    go_wp2_with fail
    refine Calls.mono (hnk.out _) ?_
    rintro e w2 ⟨rfl, rfl⟩
    clear hnk
    go_wp2_with fail
    refine Calls.mono (K0.out _ _ S2.out) ?_
    rintro e t0 ⟨rfl, T0, Q0⟩
    have d0 : t0.cell? ⟨w.heap.size + 1, 1, none⟩ = some (.int .i64 0) := T0.own.cell 1
    have y0 := T0.own.frozen 1
    have R0 : Hid (Sr w (t0.setCell ⟨w.heap.size + 1, 1, none⟩ (.int .i64 (u : Int))) rb w.heap.size 52 _ [.int .i64 (k : Int), .int .i64 (u : Int), .int .i64 0, .int .i64 0, .int .i64 0, .int .i64 0] s2) := T0.set 1 (.int .i64 (u : Int))
    clear T0 Q0 K0 S2 c1 f1
    go_wp2_with fail
    refine Calls.mono (K1.out _ _ R0.out) ?_
    rintro e t1 ⟨rfl, T1, Q1⟩
    have d1 : t1.cell? ⟨w.heap.size + 1, 3, none⟩ = some (.int .i64 0) := T1.own.cell 3
    have y1 := T1.own.frozen 3
    have R1 : Hid (Sr w (t1.setCell ⟨w.heap.size + 1, 3, none⟩ (.int .i64 (v : Int))) rb w.heap.size 52 _ [.int .i64 (k : Int), .int .i64 (u : Int), .int .i64 0, .int .i64 (v : Int), .int .i64 0, .int .i64 0] s3) := T1.set 3 (.int .i64 (v : Int))
    clear T1 Q1 K1 R0 d0 y0
    obtain ⟨E, hE⟩ : ∃ E : List Value, E = [.int .i64 (k : Int), .int .i64 (u : Int), .int .i64 0, .int .i64 (v : Int), .int .i64 0, .int .i64 0] := ⟨_, rfl⟩
    have HE := hid (fun (_ : Nat) => hE)
    have hone : Hid (∀ v ∈ E, v.oneCell' = true) := by rw [hE]; exact hid (one6 _ _ _ _ _ _)
    have hi52 : (Try.prog.info? 52).map (·.size) = some E.length := by rw [hE]; exact size52r
    have S9 := R1
    rw [← hE] at S9
    have g1 := S9.out.own.range
    have g2 := S9.out.res.there 0 E.length (by rw [hE]; simp)
    obtain ⟨g3, g4, g5⟩ := S9.out.fin (by rw [hE]; rfl)
    clear hE R1 S9
    go_wp2_with (first
      | ((with_reducible refine wpL_load 52 (w.heap.size + 1) 0 E _ ?_ g1 Try.underlying52 ?_ hi52 ?_); (rfl); (rfl); (simp only [Act.put, List.setIfInBounds_toArray, List.set_cons_zero, List.set_cons_succ]))
      | ((with_reducible refine wpL_store 52 w.heap.size 0 E ?_ ?_ g2 hi52 hone.out ?_); (rfl); (rfl); (simp only [Act.put])))
    exact bodyPost_ret (results_array Try.results97 rfl g3 Try.underlying52 rfl hi52) rfl ⟨by rw [HE.out 0]; rfl, g4, g5⟩
  · simp only [q1, q2, q3, q4, if_true, Bool.false_eq_true, if_false]
    simp only [q1, q2, q3, q4] at hnk
    clear q1 q2 q3 q4
    obtain ⟨u, s2, hk0⟩ : ∃ a b, pN 2147483647 s1 = (a, b) := ⟨_, _, rfl⟩
    have K0 : Hid (∀ l W, Sr w W rb w.heap.size 52 [Value.int .i64 0, .int .i64 0, .int .i64 0, .int .i64 0, .int .i64 0, .int .i64 0] l s1 → Calls Try.prog 75 #[.pointer (some ⟨rb, 0, none⟩), .int .u64 2147483648] W fun e w' => e = .returned (.int .u64 (u : Int)) ∧ Sr w w' rb w.heap.size 52 [Value.int .i64 0, .int .i64 0, .int .i64 0, .int .i64 0, .int .i64 0, .int .i64 0] l s2 ∧ Only rb W w') := fun l W h => by
      have h9 := num_sr h HG1.out 2147483647 (by omega) 2147483648 (by rfl)
      rw [hk0] at h9; exact h9
    have G0 : Hid (Gd s2) := by have := pN_gd HG1.out 2147483647; rw [hk0] at this; exact hid this
    have hl0 : (u : Int) ≤ 2147483647 := by have := pN_le 2147483647 s1; rw [hk0] at this; simp only at this; omega
    simp only [hk0]
    clear hk0
    unfold C6.val cmd
    go_enter Try.func97, Try.ntmps97
    go_wp2_with fail
    refine Calls.mono hc1.out ?_
    rintro e w1 ⟨rfl, S1, O1⟩
    have c1 : w1.cell? ⟨w.heap.size + 1, 0, none⟩ = some (.int .i64 0) := S1.own.cell 0
    have f1 := S1.own.frozen 0
    have S2 : Hid (Sr w (w1.setCell ⟨w.heap.size + 1, 0, none⟩ (.int .i64 (k : Int))) rb w.heap.size 52 _ [.int .i64 (k : Int), .int .i64 0, .int .i64 0, .int .i64 0, .int .i64 0, .int .i64 0] s1) := S1.set 0 (.int .i64 (k : Int))
    clear S1 O1 hc1
    go_wp2_with fail
    refine Calls.mono (hnk.out _) ?_
    rintro e w2 ⟨rfl, rfl⟩
    clear hnk
    go_wp2_with fail
    refine Calls.mono (K0.out _ _ S2.out) ?_
    rintro e t0 ⟨rfl, T0, Q0⟩
    have d0 : t0.cell? ⟨w.heap.size + 1, 1, none⟩ = some (.int .i64 0) := T0.own.cell 1
    have y0 := T0.own.frozen 1
    have R0 : Hid (Sr w (t0.setCell ⟨w.heap.size + 1, 1, none⟩ (.int .i64 (u : Int))) rb w.heap.size 52 _ [.int .i64 (k : Int), .int .i64 (u : Int), .int .i64 0, .int .i64 0, .int .i64 0, .int .i64 0] s2) := T0.set 1 (.int .i64 (u : Int))
    clear T0 Q0 K0 S2 c1 f1
    obtain ⟨E, hE⟩ : ∃ E : List Value, E = [.int .i64 (k : Int), .int .i64 (u : Int), .int .i64 0, .int .i64 0, .int .i64 0, .int .i64 0] := ⟨_, rfl⟩
    have HE := hid (fun (_ : Nat) => hE)
    have hone : Hid (∀ v ∈ E, v.oneCell' = true) := by rw [hE]; exact hid (one6 _ _ _ _ _ _)
    have hi52 : (Try.prog.info? 52).map (·.size) = some E.length := by rw [hE]; exact size52r
    have S9 := R0
    rw [← hE] at S9
    have g1 := S9.out.own.range
    have g2 := S9.out.res.there 0 E.length (by rw [hE]; simp)
    obtain ⟨g3, g4, g5⟩ := S9.out.fin (by rw [hE]; rfl)
    clear hE R0 S9
    go_wp2_with (first
      | ((with_reducible refine wpL_load 52 (w.heap.size + 1) 0 E _ ?_ g1 Try.underlying52 ?_ hi52 ?_); (rfl); (rfl); (simp only [Act.put, List.setIfInBounds_toArray, List.set_cons_zero, List.set_cons_succ]))
      | ((with_reducible refine wpL_store 52 w.heap.size 0 E ?_ ?_ g2 hi52 hone.out ?_); (rfl); (rfl); (simp only [Act.put])))
    exact bodyPost_ret (results_array Try.results97 rfl g3 Try.underlying52 rfl hi52) rfl ⟨by rw [HE.out 0]; rfl, g4, g5⟩
  · simp only [q1, q2, q3, q4, Bool.false_eq_true, if_false]
    simp only [q1, q2, q3, q4] at hnk
    clear q1 q2 q3 q4
    unfold C6.val cmd
    go_enter Try.func97, Try.ntmps97
    go_wp2_with fail
    refine Calls.mono hc1.out ?_
    rintro e w1 ⟨rfl, S1, O1⟩
    have c1 : w1.cell? ⟨w.heap.size + 1, 0, none⟩ = some (.int .i64 0) := S1.own.cell 0
    have f1 := S1.own.frozen 0
    have S2 : Hid (Sr w (w1.setCell ⟨w.heap.size + 1, 0, none⟩ (.int .i64 (k : Int))) rb w.heap.size 52 _ [.int .i64 (k : Int), .int .i64 0, .int .i64 0, .int .i64 0, .int .i64 0, .int .i64 0] s1) := S1.set 0 (.int .i64 (k : Int))
    clear S1 O1 hc1
    go_wp2_with fail
    refine Calls.mono (hnk.out _) ?_
    rintro e w2 ⟨rfl, rfl⟩
    clear hnk
    obtain ⟨E, hE⟩ : ∃ E : List Value, E = [.int .i64 (k : Int), .int .i64 0, .int .i64 0, .int .i64 0, .int .i64 0, .int .i64 0] := ⟨_, rfl⟩
    have HE := hid (fun (_ : Nat) => hE)
    have hone : Hid (∀ v ∈ E, v.oneCell' = true) := by rw [hE]; exact hid (one6 _ _ _ _ _ _)
    have hi52 : (Try.prog.info? 52).map (·.size) = some E.length := by rw [hE]; exact size52r
    have S9 := S2
    rw [← hE] at S9
    have g1 := S9.out.own.range
    have g2 := S9.out.res.there 0 E.length (by rw [hE]; simp)
    obtain ⟨g3, g4, g5⟩ := S9.out.fin (by rw [hE]; rfl)
    clear hE S2 S9
    go_wp2_with (first
      | ((with_reducible refine wpL_load 52 (w.heap.size + 1) 0 E _ ?_ g1 Try.underlying52 ?_ hi52 ?_); (rfl); (rfl); (simp only [Act.put, List.setIfInBounds_toArray, List.set_cons_zero, List.set_cons_succ]))
      | ((with_reducible refine wpL_store 52 w.heap.size 0 E ?_ ?_ g2 hi52 hone.out ?_); (rfl); (rfl); (simp only [Act.put])))
    exact bodyPost_ret (results_array Try.results97 rfl g3 Try.underlying52 rfl hi52) rfl ⟨by rw [HE.out 0]; rfl, g4, g5⟩
end Go.Proofs.Ytpiflgbcbhnmpaa
