/- Train 14. -/
import Derived.Test.YtjkcmedmojidgaaPl
namespace Go.Proofs.Ytjkcmedmojidgaa
open Go.RowKit
theorem train_tr {k : Int} (h : isTr k = true) : 0 ≤ cost k ∧ cost k ≤ 40 ∧ 2 ≤ k ∧ k ≤ 4 := by
  have h2 : 2 ≤ k ∧ k ≤ 4 := by simpa [isTr] using h
  refine ⟨?_, ?_, h2⟩ <;> (unfold cost st; repeat' split) <;> omega
set_option maxRecDepth 20000 in
set_option maxHeartbeats 8000000 in
theorem train_any (o : Int) (b : Bool) (q : List Int) (l k : Int) (s : Option Addr) (cap N : Nat) (w : World) (hI : IntsAt w (.slice s N cap) q) (hN : N = q.length) (hs : N ≤ 1000000) (ho : I64 o) :
    Calls Try.prog 14 #[.agg #[.int .i64 o, .bool b, .slice s N cap, .int .i64 l], .int .i64 k] w fun e w' => OutP w (tr ⟨o, b, q, l⟩ k) (trE ⟨o, b, q, l⟩ k) e w' := by
  obtain ⟨R, hR⟩ : ∃ R, R = tr ⟨o, b, q, l⟩ k := ⟨_, rfl⟩
  rw [← hR]
  have HR := hid (fun (_ : Nat) => hR)
  clear hR
  obtain ⟨X, hX⟩ : ∃ X, X = trE ⟨o, b, q, l⟩ k := ⟨_, rfl⟩
  rw [← hX]
  have HX := hid (fun (_ : Nat) => hX)
  clear hX
  have h23 : Hid (∀ W, IntsAt W (.slice s N cap) q → Calls Try.prog 23 #[.agg #[.int .i64 o, .bool b, .slice s N cap, .int .i64 l]] W fun e w' => ∃ p cap, e = .returned (.agg #[.int .i64 o, .bool b, .slice p N cap, .int .i64 l]) ∧ OwnI w' W.heap.size (.slice p N cap) q ∧ Below W.heap.size W w') := fun W h => apart_any o b q l s cap N W h hN hs
  have hs9 : Hid (∀ W, Calls Try.prog 9 #[.int .i64 k] W fun e w' => e = .returned (.tuple #[statV k, .int .i64 (statE k)]) ∧ Below W.heap.size W w') := stat_any k
  unfold statV at *
  have HB : Hid (-9223372036854775808 ≤ o ∧ o ≤ 9223372036854775807) := ho
  clear ho
  have h24 : Hid (∀ W, Calls Try.prog 24 #[.int .i64 k] W fun e w' => e = .returned (.bool (isTr k)) ∧ w' = W) := isTrained_any k
  obtain ⟨W, hW⟩ : ∃ W, W = (w.alloc (.cells #[.int .i64 o, .bool b, .slice s N cap, .int .i64 l] 36)).alloc (.cells #[.int .i64 0, .bool false, .slice none 0 0, .int .i64 0] 36) := ⟨_, rfl⟩
  obtain ⟨g, hg⟩ : ∃ g, g = w.heap.size := ⟨_, rfl⟩
  have HBW : Hid (Below w.heap.size w W) := by rw [hW]; exact ((Below.refl _ _).alloc (Nat.le_refl _) _).alloc (by simp) _
  have HSZ : Hid (W.heap.size = g + 2) := by rw [hW, hg]; simp [Hid]
  have HTA : Hid (Blk W g [.int .i64 o, .bool b, .slice s N cap, .int .i64 l] 36) := by rw [hW]; exact (Blk.new' _ _ _ _ hg).alloc _
  have HTC : Hid (Blk W (g + 1) [.int .i64 0, .bool false, .slice none 0 0, .int .i64 0] 36) := by rw [hW]; exact Blk.new' _ _ _ _ (by rw [hg]; simp)
  have HI := hid (hI.below HBW.out)
  have HG := hid (fun (_ : Nat) => hg)
  have HN : Hid (N = q.length) := hN
  have HNS : Hid (N ≤ 1000000) := hs
  clear hI hN hs
  go_enter Try.func14, Try.ntmps14
  go_upto_region 1 with fail
  rw [← hW, ← hg]
  have c0 : W.cell? ⟨g, 0, none⟩ = some (.int .i64 o) := HTA.out.cell 0
  have c1 : W.cell? ⟨g, 1, none⟩ = some (.bool b) := HTA.out.cell 1
  have c2 : W.cell? ⟨g, 2, none⟩ = some (.slice s N cap) := HTA.out.cell 2
  have c3 : W.cell? ⟨g, 3, none⟩ = some (.int .i64 l) := HTA.out.cell 3
  clear hW hg
  go_wp2_with fail
  refine Calls.mono (h23.out _ HI.out) ?_
  rintro e w1 ⟨s1, cap1, rfl, ho, hb⟩
  have HS1 : Hid (St w w1 g [.int .i64 o, .bool b, .slice s N cap, .int .i64 l] [.int .i64 0, .bool false, .slice none 0 0, .int .i64 0] (.slice s1 N cap1) q) :=
    ⟨HTA.out.below hb HTA.out.lt, HTC.out.below hb HTC.out.lt, by rw [HSZ.out] at ho; exact ho, HBW.out.trans (hb.mono HBW.out.size), HG.out 0⟩
  clear c0 c1 c2 c3 ho hb HBW HTA HTC HI HSZ h23
  have d0 : w1.cell? ⟨g, 0, none⟩ = some (.int .i64 o) := HS1.out.a.cell 0
  have d1 : w1.cell? ⟨g, 1, none⟩ = some (.bool b) := HS1.out.a.cell 1
  have d2 : w1.cell? ⟨g, 2, none⟩ = some (.slice s N cap) := HS1.out.a.cell 2
  have d3 : w1.cell? ⟨g, 3, none⟩ = some (.int .i64 l) := HS1.out.a.cell 3
  have f0 := HS1.out.a.frozen
  go_upto_region 2 with fail
  obtain ⟨w2, hw2⟩ : ∃ w2, w2 = ((((w1.setCell ⟨g, 0, none⟩ (.int .i64 o)).setCell ⟨g, 1, none⟩ (.bool b)).setCell ⟨g, 2, none⟩ (.slice s1 N cap1)).setCell ⟨g, 3, none⟩ (.int .i64 l)) := ⟨_, rfl⟩
  rw [← hw2]
  have HS2 : Hid (St w w2 g [.int .i64 o, .bool b, .slice s1 N cap1, .int .i64 l] [.int .i64 0, .bool false, .slice none 0 0, .int .i64 0] (.slice s1 N cap1) q) := by rw [hw2]; exact (((HS1.out.seta 0 (.int .i64 o)).seta 1 (.bool b)).seta 2 (.slice s1 N cap1)).seta 3 (.int .i64 l)
  clear hw2 d0 d1 d2 d3 f0 HS1
  have d0 : w2.cell? ⟨g, 0, none⟩ = some (.int .i64 o) := HS2.out.a.cell 0
  have d1 : w2.cell? ⟨g, 1, none⟩ = some (.bool b) := HS2.out.a.cell 1
  have d2 : w2.cell? ⟨g, 2, none⟩ = some (.slice s1 N cap1) := HS2.out.a.cell 2
  have d3 : w2.cell? ⟨g, 3, none⟩ = some (.int .i64 l) := HS2.out.a.cell 3
  have e0 : w2.cell? ⟨g + 1, 0, none⟩ = some (.int .i64 0) := HS2.out.c.cell 0
  have e1 : w2.cell? ⟨g + 1, 1, none⟩ = some (.bool false) := HS2.out.c.cell 1
  have e2 : w2.cell? ⟨g + 1, 2, none⟩ = some (.slice none 0 0) := HS2.out.c.cell 2
  have e3 : w2.cell? ⟨g + 1, 3, none⟩ = some (.int .i64 0) := HS2.out.c.cell 3
  have f0 := HS2.out.a.frozen
  have f1 := HS2.out.c.frozen
  rcases Bool.eq_false_or_eq_true b with hb | hb
  case' inr =>
    subst hb
    have HV : Hid (trE ⟨o, false, q, l⟩ k = 7) := by unfold trE; rw [if_pos rfl]; exact hid rfl
    have HE : Hid (tr ⟨o, false, q, l⟩ k = ⟨o, false, q, l⟩) := by unfold tr; rw [HV.out]; exact hid rfl
    go_wp2
    have hE := HE.out
    have hV := HV.out
    obtain rfl := (HR.out 0).trans hE
    obtain rfl := (HX.out 0).trans hV
    have HS3 := (((HS2.out.setc 0 (.int .i64 o)).setc 1 (.bool false)).setc 2 (.slice s1 N cap1)).setc 3 (.int .i64 l)
    exact bodyPost_ret (results_cell_tmp Try.results14 rfl rfl HS3.c Try.underlying36 rfl size36) rfl ⟨_, _, _, HN.out, rfl, (HS3.own.mono (by have := HS3.eg; omega)).rw, HS3.be⟩
  subst hb
  rcases Bool.eq_false_or_eq_true (isTr k) with ht | ht
  case' inr =>
    have HV : Hid (trE ⟨o, true, q, l⟩ k = 3) := by unfold trE; rw [if_neg (by simp), if_pos ht]; exact hid rfl
    have HE : Hid (tr ⟨o, true, q, l⟩ k = ⟨o, true, q, l⟩) := by unfold tr; rw [HV.out]; exact hid rfl
    go_wp2_with fail
    rw [ht] at h24
    refine Calls.mono (h24.out _) ?_
    rintro e w3 ⟨rfl, hw3⟩
    replace hw3 := hw3.symm
    subst hw3
    go_wp2
    have hE := HE.out
    have hV := HV.out
    obtain rfl := (HR.out 0).trans hE
    obtain rfl := (HX.out 0).trans hV
    have HS3 := (((HS2.out.setc 0 (.int .i64 o)).setc 1 (.bool true)).setc 2 (.slice s1 N cap1)).setc 3 (.int .i64 l)
    exact bodyPost_ret (results_cell_tmp Try.results14 rfl rfl HS3.c Try.underlying36 rfl size36) rfl ⟨_, _, _, HN.out, rfl, (HS3.own.mono (by have := HS3.eg; omega)).rw, HS3.be⟩
  obtain ⟨hc0, hc40, hk2, hk4⟩ := train_tr ht
  rw [ht] at h24
  by_cases h3 : 3 ≤ N
  · have hN3 : (3 : Int) ≤ (N : Int) := by omega
    have HV : Hid (trE ⟨o, true, q, l⟩ k = 6) := by unfold trE; rw [if_neg (by simp), if_neg (by rw [ht]; simp), if_pos (by have := HN.out; simp only; omega)]; exact hid rfl
    have HE : Hid (tr ⟨o, true, q, l⟩ k = ⟨o, true, q, l⟩) := by unfold tr; rw [HV.out]; exact hid rfl
    go_wp2_with fail
    refine Calls.mono (h24.out _) ?_
    rintro e w3 ⟨rfl, hw3⟩
    replace hw3 := hw3.symm
    subst hw3
    go_wp2
    have hE := HE.out
    have hV := HV.out
    obtain rfl := (HR.out 0).trans hE
    obtain rfl := (HX.out 0).trans hV
    have HS3 := (((HS2.out.setc 0 (.int .i64 o)).setc 1 (.bool true)).setc 2 (.slice s1 N cap1)).setc 3 (.int .i64 l)
    exact bodyPost_ret (results_cell_tmp Try.results14 rfl rfl HS3.c Try.underlying36 rfl size36) rfl ⟨_, _, _, HN.out, rfl, (HS3.own.mono (by have := HS3.eg; omega)).rw, HS3.be⟩
  have hN3 : ((3 : Int) ≤ (N : Int)) = False := by simp; omega
  have HT := hid ht
  have HN2 : Hid (N ≤ 2) := hid (by omega)
  clear ht h3
  go_wp2_with fail
  refine Calls.mono (h24.out _) ?_
  rintro e w3 ⟨rfl, hw3⟩
  replace hw3 := hw3.symm
  subst hw3
  go_wp2_with fail
  refine Calls.mono (hs9.out _) ?_
  rintro e w3 ⟨rfl, hb⟩
  have HS3 := hid (HS2.out.below hb)
  clear hb d0 d1 d2 d3 e0 e1 e2 e3 f0 f1 hs9
  obtain ⟨U, hU⟩ : ∃ U, cost k = U := ⟨_, rfl⟩
  obtain ⟨T, hT⟩ : ∃ T, turns k = T := ⟨_, rfl⟩
  rw [hU, hT]
  rw [hU] at hc0 hc40
  have HU := hid (fun (_ : Nat) => hU)
  have HTT := hid (fun (_ : Nat) => hT)
  clear hU hT
  generalize st k 60 10 25 12 = U1 at *
  generalize st k 4 1 6 2 = U2 at *
  generalize st k 3 1 2 1 = U3 at *
  generalize st k 5 3 4 6 = U4 at *
  go_upto_region 9 with fail
  obtain ⟨A, hA⟩ : ∃ A, A = w3.heap.size := ⟨_, rfl⟩
  have hAg : A ≠ g := by have := HS3.out.a.lt; omega
  have hAg1 : A ≠ g + 1 := by have := HS3.out.c.lt; omega
  obtain ⟨w4, hw4⟩ : ∃ w4, w4 = w3.alloc (.cells #[.int .i64 U, .int .i64 T, .int .i64 U1, .int .i64 U2, .int .i64 U3, .int .i64 U4] 24) := ⟨_, rfl⟩
  have HS4 := hid (HS3.out.below (by rw [hw4]; exact (Below.refl _ _).alloc (Nat.le_refl _) _ : Below w3.heap.size w3 w4))
  have HA4 : Hid (Blk w4 A [.int .i64 U, .int .i64 T, .int .i64 U1, .int .i64 U2, .int .i64 U3, .int .i64 U4] 24) := by rw [hw4, hA]; exact Blk.new w3 [.int .i64 U, .int .i64 T, .int .i64 U1, .int .i64 U2, .int .i64 U3, .int .i64 U4] 24
  rw [← hw4, ← hA]
  clear hw4 hA HS3
  have t0 : w4.cell? ⟨A, 0, none⟩ = some (.int .i64 U) := HA4.out.cell 0
  have t1 : w4.cell? ⟨A, 1, none⟩ = some (.int .i64 T) := HA4.out.cell 1
  have d0 : w4.cell? ⟨g, 0, none⟩ = some (.int .i64 o) := HS4.out.a.cell 0
  have d1 : w4.cell? ⟨g, 1, none⟩ = some (.bool true) := HS4.out.a.cell 1
  have d2 : w4.cell? ⟨g, 2, none⟩ = some (.slice s1 N cap1) := HS4.out.a.cell 2
  have d3 : w4.cell? ⟨g, 3, none⟩ = some (.int .i64 l) := HS4.out.a.cell 3
  have e0 : w4.cell? ⟨g + 1, 0, none⟩ = some (.int .i64 0) := HS4.out.c.cell 0
  have e1 : w4.cell? ⟨g + 1, 1, none⟩ = some (.bool false) := HS4.out.c.cell 1
  have e2 : w4.cell? ⟨g + 1, 2, none⟩ = some (.slice none 0 0) := HS4.out.c.cell 2
  have e3 : w4.cell? ⟨g + 1, 3, none⟩ = some (.int .i64 0) := HS4.out.c.cell 3
  have f0 := HS4.out.a.frozen
  have f1 := HS4.out.c.frozen
  by_cases h5 : o < U
  · have HV : Hid (trE ⟨o, true, q, l⟩ k = 2) := by
      unfold trE
      rw [if_neg (by simp), if_neg (by rw [HT.out]; simp), if_neg (by have := HN.out; have := HN2.out; simp only; omega), if_pos (by rw [HU.out 0]; exact h5)]
      exact hid rfl
    have HE : Hid (tr ⟨o, true, q, l⟩ k = ⟨o, true, q, l⟩) := by unfold tr; rw [HV.out]; exact hid rfl
    go_wp2
    have hE := HE.out
    have hV := HV.out
    obtain rfl := (HR.out 0).trans hE
    obtain rfl := (HX.out 0).trans hV
    have HS3 := (((HS4.out.setc 0 (.int .i64 o)).setc 1 (.bool true)).setc 2 (.slice s1 N cap1)).setc 3 (.int .i64 l)
    exact bodyPost_ret (results_cell_tmp Try.results14 rfl rfl HS3.c Try.underlying36 rfl size36) rfl ⟨_, _, _, HN.out, rfl, (HS3.own.mono (by have := HS3.eg; omega)).rw, HS3.be⟩
  have HV : Hid (trE ⟨o, true, q, l⟩ k = 0) := by
    unfold trE
    rw [if_neg (by simp), if_neg (by rw [HT.out]; simp), if_neg (by have := HN.out; have := HN2.out; simp only; omega), if_neg (by rw [HU.out 0]; exact h5)]
    exact hid rfl
  have HE : Hid (tr ⟨o, true, q, l⟩ k = ⟨o - U, true, q ++ [k], if q.length = 0 then T else l⟩) := by unfold tr; rw [HV.out, if_pos rfl, HU.out 0, HTT.out 0]; exact hid rfl
  have wr1 : wrap64 (o - U) = o - U := by have := HB.out; unfold wrap64; omega
  by_cases h0 : N = 0
  · subst h0
    go_upto_region 14 with fail
    obtain ⟨w5, hw5⟩ : ∃ w5, w5 = (w4.setCell ⟨g, 3, none⟩ (.int .i64 T)).setCell ⟨g, 0, none⟩ (.int .i64 (o - U)) := ⟨_, rfl⟩
    have HS5 : Hid (St w w5 g [.int .i64 (o - U), .bool true, .slice s1 0 cap1, .int .i64 T] [.int .i64 0, .bool false, .slice none 0 0, .int .i64 0] (.slice s1 0 cap1) q) := by rw [hw5]; exact (HS4.out.seta 3 (.int .i64 T)).seta 0 (.int .i64 (o - U))
    rw [← hw5]
    clear hw5 d0 d1 d2 d3 e0 e1 e2 e3 f0 f1 t0 t1
    obtain ⟨w6, hw6⟩ : ∃ w6, w6 = w5.alloc (.cells #[.int .i64 k] 3) := ⟨_, rfl⟩
    have HS6 : Hid (St w w6 g [.int .i64 (o - U), .bool true, .slice s1 0 cap1, .int .i64 T] [.int .i64 0, .bool false, .slice none 0 0, .int .i64 0] (.slice s1 0 cap1) q) := by rw [hw6]; exact HS5.out.below ((Below.refl _ _).alloc (Nat.le_refl _) _)
    have HI6 : Hid (IntsAt w6 (.slice (some ⟨w5.heap.size, 0, none⟩) 1 1) [k]) := by rw [hw6]; exact ints_one w5 (.int .i64 k) k rfl
    have HO6 := hid HS6.out.own
    have HN5 : Hid (q.length + [k].length = 1) := hid (by have := HN.out; simp only [List.length_cons, List.length_nil]; omega)
    have HNN : Hid (1 ≤ 1000000000) := hid (by have := HN2.out; omega)
    have HSL : Hid (g + 2 ≤ w6.heap.size) := hid (by have := HS6.out.c.lt; omega)
    rw [hw6] at HI6 HO6 HSL HS6
    clear hw6
    have d0 : w5.cell? ⟨g, 0, none⟩ = some (.int .i64 (o - U)) := HS5.out.a.cell 0
    have d1 : w5.cell? ⟨g, 1, none⟩ = some (.bool true) := HS5.out.a.cell 1
    have d2 : w5.cell? ⟨g, 2, none⟩ = some (.slice s1 0 cap1) := HS5.out.a.cell 2
    have d3 : w5.cell? ⟨g, 3, none⟩ = some (.int .i64 T) := HS5.out.a.cell 3
    have e0 : w5.cell? ⟨g + 1, 0, none⟩ = some (.int .i64 0) := HS5.out.c.cell 0
    have e1 : w5.cell? ⟨g + 1, 1, none⟩ = some (.bool false) := HS5.out.c.cell 1
    have e2 : w5.cell? ⟨g + 1, 2, none⟩ = some (.slice none 0 0) := HS5.out.c.cell 2
    have e3 : w5.cell? ⟨g + 1, 3, none⟩ = some (.int .i64 0) := HS5.out.c.cell 3
    have f0 := HS5.out.a.frozen
    have f1 := HS5.out.c.frozen
    go_wp2_with (first
      | ((with_reducible refine wpL_append (g + 2) (.slice s1 0 cap1) (.slice (some ⟨w5.heap.size, 0, none⟩) 1 1) q [k] (1) HN5.out ?_ ?_ HO6.out HI6.out HNN.out HSL.out ?_); (rfl); (rfl); (intro p7 cap7 w7 ho hb); (have HS7 := hid (HS6.out.other hb ho)); (clear ho hb d0 d1 d2 d3 e0 e1 e2 e3 f0 f1); (have d0 : w7.cell? ⟨g, 0, none⟩ = some (.int .i64 (o - U)) := HS7.out.a.cell 0); (have d1 : w7.cell? ⟨g, 1, none⟩ = some (.bool true) := HS7.out.a.cell 1); (have d2 : w7.cell? ⟨g, 2, none⟩ = some (.slice s1 0 cap1) := HS7.out.a.cell 2); (have d3 : w7.cell? ⟨g, 3, none⟩ = some (.int .i64 T) := HS7.out.a.cell 3); (have e0 : w7.cell? ⟨g + 1, 0, none⟩ = some (.int .i64 0) := HS7.out.c.cell 0); (have e1 : w7.cell? ⟨g + 1, 1, none⟩ = some (.bool false) := HS7.out.c.cell 1); (have e2 : w7.cell? ⟨g + 1, 2, none⟩ = some (.slice none 0 0) := HS7.out.c.cell 2); (have e3 : w7.cell? ⟨g + 1, 3, none⟩ = some (.int .i64 0) := HS7.out.c.cell 3); (have f0 := HS7.out.a.frozen); (have f1 := HS7.out.c.frozen); (simp only [Act.put, List.setIfInBounds_toArray, List.set_cons_zero, List.set_cons_succ])))
    have hE := HE.out
    have hV := HV.out
    rw [if_pos (HN.out.symm)] at hE
    obtain rfl := (HR.out 0).trans hE
    obtain rfl := (HX.out 0).trans hV
    have HS3 := ((((HS7.out.seta 2 (.slice p7 (1) cap7)).setc 0 (.int .i64 (o - U))).setc 1 (.bool true)).setc 2 (.slice p7 (1) cap7)).setc 3 (.int .i64 T)
    exact bodyPost_ret (results_cell_tmp Try.results14 rfl rfl HS3.c Try.underlying36 rfl size36) rfl ⟨_, _, _, (by have := HN.out; simp only [List.length_append, List.length_cons, List.length_nil]; omega), rfl, (HS3.own.mono (by have := HS3.eg; omega)).rw, HS3.be⟩
  · have hg0 : ((N : Int) == 0) = false := by simpa using h0
    go_upto_region 14 with fail
    obtain ⟨w5, hw5⟩ : ∃ w5, w5 = w4.setCell ⟨g, 0, none⟩ (.int .i64 (o - U)) := ⟨_, rfl⟩
    have HS5 : Hid (St w w5 g [.int .i64 (o - U), .bool true, .slice s1 N cap1, .int .i64 l] [.int .i64 0, .bool false, .slice none 0 0, .int .i64 0] (.slice s1 N cap1) q) := by rw [hw5]; exact HS4.out.seta 0 (.int .i64 (o - U))
    rw [← hw5]
    clear hw5 d0 d1 d2 d3 e0 e1 e2 e3 f0 f1 t0 t1
    obtain ⟨w6, hw6⟩ : ∃ w6, w6 = w5.alloc (.cells #[.int .i64 k] 3) := ⟨_, rfl⟩
    have HS6 : Hid (St w w6 g [.int .i64 (o - U), .bool true, .slice s1 N cap1, .int .i64 l] [.int .i64 0, .bool false, .slice none 0 0, .int .i64 0] (.slice s1 N cap1) q) := by rw [hw6]; exact HS5.out.below ((Below.refl _ _).alloc (Nat.le_refl _) _)
    have HI6 : Hid (IntsAt w6 (.slice (some ⟨w5.heap.size, 0, none⟩) 1 1) [k]) := by rw [hw6]; exact ints_one w5 (.int .i64 k) k rfl
    have HO6 := hid HS6.out.own
    have HN5 : Hid (q.length + [k].length = N + 1) := hid (by have := HN.out; simp only [List.length_cons, List.length_nil]; omega)
    have HNN : Hid (N + 1 ≤ 1000000000) := hid (by have := HN2.out; omega)
    have HSL : Hid (g + 2 ≤ w6.heap.size) := hid (by have := HS6.out.c.lt; omega)
    rw [hw6] at HI6 HO6 HSL HS6
    clear hw6
    have d0 : w5.cell? ⟨g, 0, none⟩ = some (.int .i64 (o - U)) := HS5.out.a.cell 0
    have d1 : w5.cell? ⟨g, 1, none⟩ = some (.bool true) := HS5.out.a.cell 1
    have d2 : w5.cell? ⟨g, 2, none⟩ = some (.slice s1 N cap1) := HS5.out.a.cell 2
    have d3 : w5.cell? ⟨g, 3, none⟩ = some (.int .i64 l) := HS5.out.a.cell 3
    have e0 : w5.cell? ⟨g + 1, 0, none⟩ = some (.int .i64 0) := HS5.out.c.cell 0
    have e1 : w5.cell? ⟨g + 1, 1, none⟩ = some (.bool false) := HS5.out.c.cell 1
    have e2 : w5.cell? ⟨g + 1, 2, none⟩ = some (.slice none 0 0) := HS5.out.c.cell 2
    have e3 : w5.cell? ⟨g + 1, 3, none⟩ = some (.int .i64 0) := HS5.out.c.cell 3
    have f0 := HS5.out.a.frozen
    have f1 := HS5.out.c.frozen
    go_wp2_with (first
      | ((with_reducible refine wpL_append (g + 2) (.slice s1 N cap1) (.slice (some ⟨w5.heap.size, 0, none⟩) 1 1) q [k] (N + 1) HN5.out ?_ ?_ HO6.out HI6.out HNN.out HSL.out ?_); (rfl); (rfl); (intro p7 cap7 w7 ho hb); (have HS7 := hid (HS6.out.other hb ho)); (clear ho hb d0 d1 d2 d3 e0 e1 e2 e3 f0 f1); (have d0 : w7.cell? ⟨g, 0, none⟩ = some (.int .i64 (o - U)) := HS7.out.a.cell 0); (have d1 : w7.cell? ⟨g, 1, none⟩ = some (.bool true) := HS7.out.a.cell 1); (have d2 : w7.cell? ⟨g, 2, none⟩ = some (.slice s1 N cap1) := HS7.out.a.cell 2); (have d3 : w7.cell? ⟨g, 3, none⟩ = some (.int .i64 l) := HS7.out.a.cell 3); (have e0 : w7.cell? ⟨g + 1, 0, none⟩ = some (.int .i64 0) := HS7.out.c.cell 0); (have e1 : w7.cell? ⟨g + 1, 1, none⟩ = some (.bool false) := HS7.out.c.cell 1); (have e2 : w7.cell? ⟨g + 1, 2, none⟩ = some (.slice none 0 0) := HS7.out.c.cell 2); (have e3 : w7.cell? ⟨g + 1, 3, none⟩ = some (.int .i64 0) := HS7.out.c.cell 3); (have f0 := HS7.out.a.frozen); (have f1 := HS7.out.c.frozen); (simp only [Act.put, List.setIfInBounds_toArray, List.set_cons_zero, List.set_cons_succ])))
    have hE := HE.out
    have hV := HV.out
    rw [if_neg (by have := HN.out; omega)] at hE
    obtain rfl := (HR.out 0).trans hE
    obtain rfl := (HX.out 0).trans hV
    have HS3 := ((((HS7.out.seta 2 (.slice p7 (N + 1) cap7)).setc 0 (.int .i64 (o - U))).setc 1 (.bool true)).setc 2 (.slice p7 (N + 1) cap7)).setc 3 (.int .i64 l)
    exact bodyPost_ret (results_cell_tmp Try.results14 rfl rfl HS3.c Try.underlying36 rfl size36) rfl ⟨_, _, _, (by have := HN.out; simp only [List.length_append, List.length_cons, List.length_nil]; omega), rfl, (HS3.own.mono (by have := HS3.eg; omega)).rw, HS3.be⟩
end Go.Proofs.Ytjkcmedmojidgaa
