/- Pop 18, the reference's 19, turnsOfFirst 26. -/
import Derived.Test.YtjkcmedmojidgaaPl
namespace Go.Proofs.Ytjkcmedmojidgaa
open Go.RowKit
/-- The row without its first. -/
theorem OwnI.drop1 {w : World} {base : Nat} {sb so N cap : Nat} {q : List Int} (h : OwnI w base (.slice (some ⟨sb, so, none⟩) N cap) q) (hN : 1 ≤ N) : Rw w base (.slice (some ⟨sb, so + 1, none⟩) (N - 1) (cap - 1)) (q.drop 1) ∧ Rw w base (.slice (some ⟨sb, so, none⟩) 0 0) [] := by
  have hb := h.block sb rfl
  obtain ⟨p, c, e, hc, hz, hcell⟩ := h.ints
  simp only [Value.slice.injEq] at e
  obtain ⟨rfl, rfl, rfl⟩ := e
  refine ⟨⟨⟨some ⟨sb, so + 1, none⟩, cap - 1, ?_, by rw [List.length_drop]; omega, (fun h => by cases h), fun hne => ⟨sb, so + 1, rfl, fun i hi => ?_⟩⟩, fun p n c e => by simp only [Value.slice.injEq, Option.some.injEq] at e; obtain ⟨rfl, -, -⟩ := e; exact hb⟩, ⟨⟨_, _, rfl, Nat.le_refl _, (fun h => by cases h), fun h => absurd rfl h⟩, fun p n c e => by simp only [Value.slice.injEq, Option.some.injEq] at e; obtain ⟨rfl, -, -⟩ := e; exact hb⟩⟩
  · rw [List.length_drop]
  · obtain ⟨sb', so', e, hcl⟩ := hcell (by intro e; rw [e] at hN; simp at hN)
    cases e
    rw [List.length_drop] at hi
    have := hcl (i + 1) (by omega)
    rw [show so + 1 + i = so + (i + 1) by omega, this]
    congr 2
    simp [List.getD]
theorem OwnI.drop1n {w : World} {base : Nat} {sb so N cap : Nat} {q : List Int} (h : OwnI w base (.slice (some ⟨sb, so, none⟩) N cap) q) (hN : 1 = q.length) : Rw w base (.slice (some ⟨sb, so, none⟩) 0 0) (q.drop 1) := by
  rw [List.drop_eq_nil_of_le (by omega)]
  refine (OwnI.drop1 h ?_).2
  obtain ⟨_, _, e, _⟩ := h.ints
  simp only [Value.slice.injEq] at e
  omega
set_option maxRecDepth 20000 in
set_option maxHeartbeats 4000000 in
theorem turnsOf_any (q : List Int) (s : Option Addr) (cap N : Nat) (w : World) (hI : IntsAt w (.slice s N cap) q) (hN : N = q.length) :
    Calls Try.prog 26 #[.slice s N cap] w fun e w' => Out w (.int .i64 (turns (q.getD 0 0))) e w' := by
  have h9 : Hid (∀ k W, Calls Try.prog 9 #[.int .i64 k] W fun e w' => e = .returned (.tuple #[statV k, .int .i64 (statE k)]) ∧ Below W.heap.size W w') := stat_any
  unfold Out statV at *
  by_cases h0 : N = 0
  · subst h0
    have : q = [] := List.eq_nil_of_length_eq_zero hN.symm
    subst this
    have e : turns ((([] : List Int)).getD 0 0) = 0 := rfl
    rw [e]
    clear e hN
    go_enter Try.func26, Try.ntmps26
    go_wp2
    go_ret
    exact ⟨rfl, Below.refl _ _⟩
  · have hg0 : ((N : Int) == 0) = false := by simpa using h0
    have hl0 : (0 : Int) < (N : Int) := by omega
    have hl1 : 0 < N := by omega
    obtain ⟨sb, so, rfl, hc⟩ := hI.pos 0 hl1
    have z0 : w.cell? ⟨sb, so, none⟩ = some (.int .i64 (q.getD 0 0)) := hc 0 hl1
    generalize q.getD 0 0 = z at *
    clear hc hI hN h0
    have h9z := hid (h9.out z)
    clear h9
    generalize turns z = t at *
    generalize cost z = u at *
    go_enter Try.func26, Try.ntmps26
    go_wp2_with fail
    refine Calls.mono (h9z.out _) ?_
    rintro e w1 ⟨rfl, hb⟩
    have HB := hid hb
    clear hb
    go_wp2
    go_ret
    exact ⟨rfl, HB.out.alloc HB.out.size _⟩
set_option maxRecDepth 20000 in
set_option maxHeartbeats 4000000 in
theorem pop_any (o : Int) (b : Bool) (q : List Int) (l : Int) (s : Option Addr) (cap N : Nat) (w : World) (hI : IntsAt w (.slice s N cap) q) (hN : N = q.length) (hs : N ≤ 1000000) :
    Calls Try.prog 18 #[.agg #[.int .i64 o, .bool b, .slice s N cap, .int .i64 l]] w fun e w' => OutP w (pp ⟨o, b, q, l⟩) (ppE ⟨o, b, q, l⟩) e w' := by
  obtain ⟨R, hR⟩ : ∃ R, R = pp ⟨o, b, q, l⟩ := ⟨_, rfl⟩
  rw [← hR]
  have HR := hid (fun (_ : Nat) => hR)
  clear hR
  obtain ⟨X, hX⟩ : ∃ X, X = ppE ⟨o, b, q, l⟩ := ⟨_, rfl⟩
  rw [← hX]
  have HX := hid (fun (_ : Nat) => hX)
  clear hX
  have h23 : Hid (∀ W, IntsAt W (.slice s N cap) q → Calls Try.prog 23 #[.agg #[.int .i64 o, .bool b, .slice s N cap, .int .i64 l]] W fun e w' => ∃ p cap, e = .returned (.agg #[.int .i64 o, .bool b, .slice p N cap, .int .i64 l]) ∧ OwnI w' W.heap.size (.slice p N cap) q ∧ Below W.heap.size W w') := fun W h => apart_any o b q l s cap N W h hN hs
  have h26 : Hid (∀ W s N cap q, IntsAt W (.slice s N cap) q → N = q.length → Calls Try.prog 26 #[.slice s N cap] W fun e w' => e = .returned (.int .i64 (turns (q.getD 0 0))) ∧ Below W.heap.size W w') := fun W s N cap q h h' => turnsOf_any q s cap N W h h'
  obtain ⟨W, hW⟩ : ∃ W, W = (w.alloc (.cells #[.int .i64 o, .bool b, .slice s N cap, .int .i64 l] 36)).alloc (.cells #[.int .i64 0, .bool false, .slice none 0 0, .int .i64 0] 36) := ⟨_, rfl⟩
  obtain ⟨g, hg⟩ : ∃ g, g = w.heap.size := ⟨_, rfl⟩
  have HBW : Hid (Below w.heap.size w W) := by rw [hW]; exact ((Below.refl _ _).alloc (Nat.le_refl _) _).alloc (by simp) _
  have HSZ : Hid (W.heap.size = g + 2) := by rw [hW, hg]; simp [Hid]
  have HTA : Hid (Blk W g [.int .i64 o, .bool b, .slice s N cap, .int .i64 l] 36) := by rw [hW]; exact (Blk.new' _ _ _ _ hg).alloc _
  have HTC : Hid (Blk W (g + 1) [.int .i64 0, .bool false, .slice none 0 0, .int .i64 0] 36) := by rw [hW]; exact Blk.new' _ _ _ _ (by rw [hg]; simp)
  have HI := hid (hI.below HBW.out)
  have HG := hid (fun (_ : Nat) => hg)
  have HN : Hid (N = q.length) := hN
  have HNS : Hid (N ≤ 1000000) := hs
  clear hI hN hs
  go_enter Try.func18, Try.ntmps18
  go_upto_region 1 with fail
  rw [← hW, ← hg]
  have c0 : W.cell? ⟨g, 0, none⟩ = some (.int .i64 o) := HTA.out.cell 0
  have c1 : W.cell? ⟨g, 1, none⟩ = some (.bool b) := HTA.out.cell 1
  have c2 : W.cell? ⟨g, 2, none⟩ = some (.slice s N cap) := HTA.out.cell 2
  have c3 : W.cell? ⟨g, 3, none⟩ = some (.int .i64 l) := HTA.out.cell 3
  clear hW hg
  go_wp2_with fail
  refine Calls.mono (h23.out _ HI.out) ?_
  rintro e w1 ⟨s1, cap1, rfl, ho, hb⟩
  have HS1 : Hid (St w w1 g [.int .i64 o, .bool b, .slice s N cap, .int .i64 l] [.int .i64 0, .bool false, .slice none 0 0, .int .i64 0] (.slice s1 N cap1) q) :=
    ⟨HTA.out.below hb HTA.out.lt, HTC.out.below hb HTC.out.lt, by rw [HSZ.out] at ho; exact ho, HBW.out.trans (hb.mono HBW.out.size), HG.out 0⟩
  clear c0 c1 c2 c3 ho hb HBW HTA HTC HI HSZ h23
  have d0 : w1.cell? ⟨g, 0, none⟩ = some (.int .i64 o) := HS1.out.a.cell 0
  have d1 : w1.cell? ⟨g, 1, none⟩ = some (.bool b) := HS1.out.a.cell 1
  have d2 : w1.cell? ⟨g, 2, none⟩ = some (.slice s N cap) := HS1.out.a.cell 2
  have d3 : w1.cell? ⟨g, 3, none⟩ = some (.int .i64 l) := HS1.out.a.cell 3
  have f0 := HS1.out.a.frozen
  go_upto_region 2 with fail
  obtain ⟨w2, hw2⟩ : ∃ w2, w2 = ((((w1.setCell ⟨g, 0, none⟩ (.int .i64 o)).setCell ⟨g, 1, none⟩ (.bool b)).setCell ⟨g, 2, none⟩ (.slice s1 N cap1)).setCell ⟨g, 3, none⟩ (.int .i64 l)) := ⟨_, rfl⟩
  rw [← hw2]
  have HS2 : Hid (St w w2 g [.int .i64 o, .bool b, .slice s1 N cap1, .int .i64 l] [.int .i64 0, .bool false, .slice none 0 0, .int .i64 0] (.slice s1 N cap1) q) := by rw [hw2]; exact (((HS1.out.seta 0 (.int .i64 o)).seta 1 (.bool b)).seta 2 (.slice s1 N cap1)).seta 3 (.int .i64 l)
  clear hw2 d0 d1 d2 d3 f0 HS1
  have d0 : w2.cell? ⟨g, 0, none⟩ = some (.int .i64 o) := HS2.out.a.cell 0
  have d1 : w2.cell? ⟨g, 1, none⟩ = some (.bool b) := HS2.out.a.cell 1
  have d2 : w2.cell? ⟨g, 2, none⟩ = some (.slice s1 N cap1) := HS2.out.a.cell 2
  have d3 : w2.cell? ⟨g, 3, none⟩ = some (.int .i64 l) := HS2.out.a.cell 3
  have e0 : w2.cell? ⟨g + 1, 0, none⟩ = some (.int .i64 0) := HS2.out.c.cell 0
  have e1 : w2.cell? ⟨g + 1, 1, none⟩ = some (.bool false) := HS2.out.c.cell 1
  have e2 : w2.cell? ⟨g + 1, 2, none⟩ = some (.slice none 0 0) := HS2.out.c.cell 2
  have e3 : w2.cell? ⟨g + 1, 3, none⟩ = some (.int .i64 0) := HS2.out.c.cell 3
  have f0 := HS2.out.a.frozen
  have f1 := HS2.out.c.frozen
  by_cases h0 : N = 0
  · have HV : Hid (ppE ⟨o, b, q, l⟩ = 7) := by unfold ppE; rw [if_pos (Or.inl (HN.out.symm.trans h0))]; exact hid rfl
    have HE : Hid (pp ⟨o, b, q, l⟩ = ⟨o, b, q, l⟩) := by unfold pp; rw [HV.out]; exact hid rfl
    subst h0
    go_wp2
    have hE := HE.out
    have hV := HV.out
    obtain rfl := (HR.out 0).trans hE
    obtain rfl := (HX.out 0).trans hV
    have HS3 := (((HS2.out.setc 0 (.int .i64 o)).setc 1 (.bool b)).setc 2 (.slice s1 0 cap1)).setc 3 (.int .i64 l)
    exact bodyPost_ret (results_cell_tmp Try.results18 rfl rfl HS3.c Try.underlying36 rfl size36) rfl ⟨_, _, _, HN.out, rfl, (HS3.own.mono (by have := HS3.eg; omega)).rw, HS3.be⟩
  have hg0 : ((N : Int) == 0) = false := by simpa using h0
  by_cases h1 : 0 < l
  · have HV : Hid (ppE ⟨o, b, q, l⟩ = 7) := by unfold ppE; rw [if_pos (Or.inr h1)]; exact hid rfl
    have HE : Hid (pp ⟨o, b, q, l⟩ = ⟨o, b, q, l⟩) := by unfold pp; rw [HV.out]; exact hid rfl
    go_wp2
    have hE := HE.out
    have hV := HV.out
    obtain rfl := (HR.out 0).trans hE
    obtain rfl := (HX.out 0).trans hV
    have HS3 := (((HS2.out.setc 0 (.int .i64 o)).setc 1 (.bool b)).setc 2 (.slice s1 N cap1)).setc 3 (.int .i64 l)
    exact bodyPost_ret (results_cell_tmp Try.results18 rfl rfl HS3.c Try.underlying36 rfl size36) rfl ⟨_, _, _, HN.out, rfl, (HS3.own.mono (by have := HS3.eg; omega)).rw, HS3.be⟩
  have HV : Hid (ppE ⟨o, b, q, l⟩ = 0) := by unfold ppE; rw [if_neg (by have := HN.out; simp only; omega)]; exact hid rfl
  have HE : Hid (pp ⟨o, b, q, l⟩ = ⟨o, b, q.drop 1, turns (q.getD 1 0)⟩) := by unfold pp; rw [HV.out]; exact hid rfl
  have hl1 : 1 ≤ N := by omega
  have hl0 : (1 : Int) ≤ (N : Int) := by omega
  obtain ⟨sb, so, rfl, hc⟩ := HS2.out.own.ints.pos 0 (by omega)
  have hcap : N ≤ cap1 := by
    obtain ⟨_, _, e, hc, _, _⟩ := HS2.out.own.ints
    simp only [Value.slice.injEq] at e
    omega
  clear hc
  by_cases hc1 : cap1 = 1
  · obtain rfl : N = 1 := by omega
    subst hc1
    have HC : Hid (∀ W', OwnI W' (g + 2) (.slice (some ⟨sb, so, none⟩) 1 1) q → Calls Try.prog 26 #[.slice (some ⟨sb, so, none⟩) 0 0] W' fun e w' => e = .returned (.int .i64 (turns (q.getD 1 0))) ∧ Below W'.heap.size W' w') := fun W' h => by
      have := h26.out W' _ _ _ (q.drop 1) (OwnI.drop1n h (by have := HN.out; omega)).1 (by rw [List.length_drop]; have := HN.out; omega)
      rwa [show (q.drop 1).getD 0 0 = q.getD 1 0 by simp [List.getD]] at this
    go_upto_region 5 with fail
    obtain ⟨w3, hw3⟩ : ∃ w3, w3 = w2.setCell ⟨g, 2, none⟩ (.slice (some ⟨sb, so, none⟩) 0 0) := ⟨_, rfl⟩
    have HS3 : Hid (St w w3 g [.int .i64 o, .bool b, .slice (some ⟨sb, so, none⟩) 0 0, .int .i64 l] [.int .i64 0, .bool false, .slice none 0 0, .int .i64 0] (.slice (some ⟨sb, so, none⟩) 1 1) q) := by rw [hw3]; exact HS2.out.seta 2 (.slice (some ⟨sb, so, none⟩) 0 0)
    rw [← hw3]
    clear hw3 d0 d1 d2 d3 e0 e1 e2 e3 f0 f1 h26
    have d0 : w3.cell? ⟨g, 0, none⟩ = some (.int .i64 o) := HS3.out.a.cell 0
    have d1 : w3.cell? ⟨g, 1, none⟩ = some (.bool b) := HS3.out.a.cell 1
    have d2 : w3.cell? ⟨g, 2, none⟩ = some (.slice (some ⟨sb, so, none⟩) 0 0) := HS3.out.a.cell 2
    have d3 : w3.cell? ⟨g, 3, none⟩ = some (.int .i64 l) := HS3.out.a.cell 3
    have e0 : w3.cell? ⟨g + 1, 0, none⟩ = some (.int .i64 0) := HS3.out.c.cell 0
    have e1 : w3.cell? ⟨g + 1, 1, none⟩ = some (.bool false) := HS3.out.c.cell 1
    have e2 : w3.cell? ⟨g + 1, 2, none⟩ = some (.slice none 0 0) := HS3.out.c.cell 2
    have e3 : w3.cell? ⟨g + 1, 3, none⟩ = some (.int .i64 0) := HS3.out.c.cell 3
    have f0 := HS3.out.a.frozen
    have f1 := HS3.out.c.frozen
    generalize turns (q.getD 1 0) = T at *
    go_wp2_with fail
    refine Calls.mono (HC.out _ HS3.out.own) ?_
    rintro e w4 ⟨rfl, hb⟩
    have HS4 := hid (HS3.out.below hb)
    clear hb d0 d1 d2 d3 e0 e1 e2 e3 f0 f1
    have d0 : w4.cell? ⟨g, 0, none⟩ = some (.int .i64 o) := HS4.out.a.cell 0
    have d1 : w4.cell? ⟨g, 1, none⟩ = some (.bool b) := HS4.out.a.cell 1
    have d2 : w4.cell? ⟨g, 2, none⟩ = some (.slice (some ⟨sb, so, none⟩) 0 0) := HS4.out.a.cell 2
    have d3 : w4.cell? ⟨g, 3, none⟩ = some (.int .i64 l) := HS4.out.a.cell 3
    have e0 : w4.cell? ⟨g + 1, 0, none⟩ = some (.int .i64 0) := HS4.out.c.cell 0
    have e1 : w4.cell? ⟨g + 1, 1, none⟩ = some (.bool false) := HS4.out.c.cell 1
    have e2 : w4.cell? ⟨g + 1, 2, none⟩ = some (.slice none 0 0) := HS4.out.c.cell 2
    have e3 : w4.cell? ⟨g + 1, 3, none⟩ = some (.int .i64 0) := HS4.out.c.cell 3
    have f0 := HS4.out.a.frozen
    have f1 := HS4.out.c.frozen
    go_wp2
    have hE := HE.out
    have hV := HV.out
    obtain rfl := (HR.out 0).trans hE
    obtain rfl := (HX.out 0).trans hV
    have HS3 := ((((HS4.out.seta 3 (.int .i64 T)).setc 0 (.int .i64 o)).setc 1 (.bool b)).setc 2 (.slice (some ⟨sb, so, none⟩) 0 0)).setc 3 (.int .i64 T)
    exact bodyPost_ret (results_cell_tmp Try.results18 rfl rfl HS3.c Try.underlying36 rfl size36) rfl ⟨_, _, _, (by simp only [List.length_drop]; have := HN.out; omega), rfl, (OwnI.drop1n (HS3.own.mono (by have := HS3.eg; omega)) (by have := HN.out; omega)), HS3.be⟩
  · have hc2 : 1 < cap1 := by omega
    have HC : Hid (∀ W', OwnI W' (g + 2) (.slice (some ⟨sb, so, none⟩) N cap1) q → Calls Try.prog 26 #[.slice (some ⟨sb, so + 1, none⟩) (N - 1) (cap1 - 1)] W' fun e w' => e = .returned (.int .i64 (turns (q.getD 1 0))) ∧ Below W'.heap.size W' w') := fun W' h => by
      have := h26.out W' _ _ _ (q.drop 1) ((OwnI.drop1 h (by omega)).1).1 (by rw [List.length_drop]; have := HN.out; omega)
      rwa [show (q.drop 1).getD 0 0 = q.getD 1 0 by simp [List.getD]] at this
    go_upto_region 5 with fail
    obtain ⟨w3, hw3⟩ : ∃ w3, w3 = w2.setCell ⟨g, 2, none⟩ (.slice (some ⟨sb, so + 1, none⟩) (N - 1) (cap1 - 1)) := ⟨_, rfl⟩
    have HS3 : Hid (St w w3 g [.int .i64 o, .bool b, .slice (some ⟨sb, so + 1, none⟩) (N - 1) (cap1 - 1), .int .i64 l] [.int .i64 0, .bool false, .slice none 0 0, .int .i64 0] (.slice (some ⟨sb, so, none⟩) N cap1) q) := by rw [hw3]; exact HS2.out.seta 2 (.slice (some ⟨sb, so + 1, none⟩) (N - 1) (cap1 - 1))
    rw [← hw3]
    clear hw3 d0 d1 d2 d3 e0 e1 e2 e3 f0 f1 h26
    have d0 : w3.cell? ⟨g, 0, none⟩ = some (.int .i64 o) := HS3.out.a.cell 0
    have d1 : w3.cell? ⟨g, 1, none⟩ = some (.bool b) := HS3.out.a.cell 1
    have d2 : w3.cell? ⟨g, 2, none⟩ = some (.slice (some ⟨sb, so + 1, none⟩) (N - 1) (cap1 - 1)) := HS3.out.a.cell 2
    have d3 : w3.cell? ⟨g, 3, none⟩ = some (.int .i64 l) := HS3.out.a.cell 3
    have e0 : w3.cell? ⟨g + 1, 0, none⟩ = some (.int .i64 0) := HS3.out.c.cell 0
    have e1 : w3.cell? ⟨g + 1, 1, none⟩ = some (.bool false) := HS3.out.c.cell 1
    have e2 : w3.cell? ⟨g + 1, 2, none⟩ = some (.slice none 0 0) := HS3.out.c.cell 2
    have e3 : w3.cell? ⟨g + 1, 3, none⟩ = some (.int .i64 0) := HS3.out.c.cell 3
    have f0 := HS3.out.a.frozen
    have f1 := HS3.out.c.frozen
    generalize turns (q.getD 1 0) = T at *
    go_wp2_with fail
    refine Calls.mono (HC.out _ HS3.out.own) ?_
    rintro e w4 ⟨rfl, hb⟩
    have HS4 := hid (HS3.out.below hb)
    clear hb d0 d1 d2 d3 e0 e1 e2 e3 f0 f1
    have d0 : w4.cell? ⟨g, 0, none⟩ = some (.int .i64 o) := HS4.out.a.cell 0
    have d1 : w4.cell? ⟨g, 1, none⟩ = some (.bool b) := HS4.out.a.cell 1
    have d2 : w4.cell? ⟨g, 2, none⟩ = some (.slice (some ⟨sb, so + 1, none⟩) (N - 1) (cap1 - 1)) := HS4.out.a.cell 2
    have d3 : w4.cell? ⟨g, 3, none⟩ = some (.int .i64 l) := HS4.out.a.cell 3
    have e0 : w4.cell? ⟨g + 1, 0, none⟩ = some (.int .i64 0) := HS4.out.c.cell 0
    have e1 : w4.cell? ⟨g + 1, 1, none⟩ = some (.bool false) := HS4.out.c.cell 1
    have e2 : w4.cell? ⟨g + 1, 2, none⟩ = some (.slice none 0 0) := HS4.out.c.cell 2
    have e3 : w4.cell? ⟨g + 1, 3, none⟩ = some (.int .i64 0) := HS4.out.c.cell 3
    have f0 := HS4.out.a.frozen
    have f1 := HS4.out.c.frozen
    go_wp2
    have hE := HE.out
    have hV := HV.out
    obtain rfl := (HR.out 0).trans hE
    obtain rfl := (HX.out 0).trans hV
    have HS3 := ((((HS4.out.seta 3 (.int .i64 T)).setc 0 (.int .i64 o)).setc 1 (.bool b)).setc 2 (.slice (some ⟨sb, so + 1, none⟩) (N - 1) (cap1 - 1))).setc 3 (.int .i64 T)
    exact bodyPost_ret (results_cell_tmp Try.results18 rfl rfl HS3.c Try.underlying36 rfl size36) rfl ⟨_, _, _, (by simp only [List.length_drop]; have := HN.out; omega), rfl, ((OwnI.drop1 (HS3.own.mono (by have := HS3.eg; omega)) (by omega)).1), HS3.be⟩
set_option maxRecDepth 20000 in
set_option maxHeartbeats 4000000 in
theorem refPop_any (o : Int) (b : Bool) (q : List Int) (l : Int) (s : Option Addr) (cap N : Nat) (w : World) (hI : IntsAt w (.slice s N cap) q) (hN : N = q.length) (hs : N ≤ 1000000) :
    Calls Try.prog 19 #[.agg #[.int .i64 o, .bool b, .slice s N cap, .int .i64 l]] w fun e w' => OutP w (pp ⟨o, b, q, l⟩) (ppE ⟨o, b, q, l⟩) e w' := by
  obtain ⟨R, hR⟩ : ∃ R, R = pp ⟨o, b, q, l⟩ := ⟨_, rfl⟩
  rw [← hR]
  have HR := hid (fun (_ : Nat) => hR)
  clear hR
  obtain ⟨X, hX⟩ : ∃ X, X = ppE ⟨o, b, q, l⟩ := ⟨_, rfl⟩
  rw [← hX]
  have HX := hid (fun (_ : Nat) => hX)
  clear hX
  have h25 : Hid (∀ W, IntsAt W (.slice s N cap) q → Calls Try.prog 25 #[.agg #[.int .i64 o, .bool b, .slice s N cap, .int .i64 l]] W fun e w' => ∃ p cap, e = .returned (.agg #[.int .i64 o, .bool b, .slice p N cap, .int .i64 l]) ∧ OwnI w' W.heap.size (.slice p N cap) q ∧ Below W.heap.size W w') := fun W h => refCopied_any o b q l s cap N W h hN hs
  have h10 : Hid (∀ k W, Calls Try.prog 10 #[.int .i64 k] W fun e w' => e = .returned (.tuple #[statV k, .int .i64 (statE k)]) ∧ Below W.heap.size W w') := refStat_any
  unfold statV at *
  obtain ⟨W, hW⟩ : ∃ W, W = (w.alloc (.cells #[.int .i64 o, .bool b, .slice s N cap, .int .i64 l] 36)).alloc (.cells #[.int .i64 0, .bool false, .slice none 0 0, .int .i64 0] 36) := ⟨_, rfl⟩
  obtain ⟨g, hg⟩ : ∃ g, g = w.heap.size := ⟨_, rfl⟩
  have HBW : Hid (Below w.heap.size w W) := by rw [hW]; exact ((Below.refl _ _).alloc (Nat.le_refl _) _).alloc (by simp) _
  have HSZ : Hid (W.heap.size = g + 2) := by rw [hW, hg]; simp [Hid]
  have HTA : Hid (Blk W g [.int .i64 o, .bool b, .slice s N cap, .int .i64 l] 36) := by rw [hW]; exact (Blk.new' _ _ _ _ hg).alloc _
  have HTC : Hid (Blk W (g + 1) [.int .i64 0, .bool false, .slice none 0 0, .int .i64 0] 36) := by rw [hW]; exact Blk.new' _ _ _ _ (by rw [hg]; simp)
  have HI := hid (hI.below HBW.out)
  have HG := hid (fun (_ : Nat) => hg)
  have HN : Hid (N = q.length) := hN
  have HNS : Hid (N ≤ 1000000) := hs
  clear hI hN hs
  go_enter Try.func19, Try.ntmps19
  go_upto_region 1 with fail
  rw [← hW, ← hg]
  have c0 : W.cell? ⟨g, 0, none⟩ = some (.int .i64 o) := HTA.out.cell 0
  have c1 : W.cell? ⟨g, 1, none⟩ = some (.bool b) := HTA.out.cell 1
  have c2 : W.cell? ⟨g, 2, none⟩ = some (.slice s N cap) := HTA.out.cell 2
  have c3 : W.cell? ⟨g, 3, none⟩ = some (.int .i64 l) := HTA.out.cell 3
  clear hW hg
  go_wp2_with fail
  refine Calls.mono (h25.out _ HI.out) ?_
  rintro e w1 ⟨s1, cap1, rfl, ho, hb⟩
  have HS1 : Hid (St w w1 g [.int .i64 o, .bool b, .slice s N cap, .int .i64 l] [.int .i64 0, .bool false, .slice none 0 0, .int .i64 0] (.slice s1 N cap1) q) :=
    ⟨HTA.out.below hb HTA.out.lt, HTC.out.below hb HTC.out.lt, by rw [HSZ.out] at ho; exact ho, HBW.out.trans (hb.mono HBW.out.size), HG.out 0⟩
  clear c0 c1 c2 c3 ho hb HBW HTA HTC HI HSZ h25
  have d0 : w1.cell? ⟨g, 0, none⟩ = some (.int .i64 o) := HS1.out.a.cell 0
  have d1 : w1.cell? ⟨g, 1, none⟩ = some (.bool b) := HS1.out.a.cell 1
  have d2 : w1.cell? ⟨g, 2, none⟩ = some (.slice s N cap) := HS1.out.a.cell 2
  have d3 : w1.cell? ⟨g, 3, none⟩ = some (.int .i64 l) := HS1.out.a.cell 3
  have f0 := HS1.out.a.frozen
  go_upto_region 2 with fail
  obtain ⟨w2, hw2⟩ : ∃ w2, w2 = ((((w1.setCell ⟨g, 0, none⟩ (.int .i64 o)).setCell ⟨g, 1, none⟩ (.bool b)).setCell ⟨g, 2, none⟩ (.slice s1 N cap1)).setCell ⟨g, 3, none⟩ (.int .i64 l)) := ⟨_, rfl⟩
  rw [← hw2]
  have HS2 : Hid (St w w2 g [.int .i64 o, .bool b, .slice s1 N cap1, .int .i64 l] [.int .i64 0, .bool false, .slice none 0 0, .int .i64 0] (.slice s1 N cap1) q) := by rw [hw2]; exact (((HS1.out.seta 0 (.int .i64 o)).seta 1 (.bool b)).seta 2 (.slice s1 N cap1)).seta 3 (.int .i64 l)
  clear hw2 d0 d1 d2 d3 f0 HS1
  have d0 : w2.cell? ⟨g, 0, none⟩ = some (.int .i64 o) := HS2.out.a.cell 0
  have d1 : w2.cell? ⟨g, 1, none⟩ = some (.bool b) := HS2.out.a.cell 1
  have d2 : w2.cell? ⟨g, 2, none⟩ = some (.slice s1 N cap1) := HS2.out.a.cell 2
  have d3 : w2.cell? ⟨g, 3, none⟩ = some (.int .i64 l) := HS2.out.a.cell 3
  have e0 : w2.cell? ⟨g + 1, 0, none⟩ = some (.int .i64 0) := HS2.out.c.cell 0
  have e1 : w2.cell? ⟨g + 1, 1, none⟩ = some (.bool false) := HS2.out.c.cell 1
  have e2 : w2.cell? ⟨g + 1, 2, none⟩ = some (.slice none 0 0) := HS2.out.c.cell 2
  have e3 : w2.cell? ⟨g + 1, 3, none⟩ = some (.int .i64 0) := HS2.out.c.cell 3
  have f0 := HS2.out.a.frozen
  have f1 := HS2.out.c.frozen
  by_cases h0 : N = 0
  · have HV : Hid (ppE ⟨o, b, q, l⟩ = 7) := by unfold ppE; rw [if_pos (Or.inl (HN.out.symm.trans h0))]; exact hid rfl
    have HE : Hid (pp ⟨o, b, q, l⟩ = ⟨o, b, q, l⟩) := by unfold pp; rw [HV.out]; exact hid rfl
    subst h0
    go_wp2
    have hE := HE.out
    have hV := HV.out
    obtain rfl := (HR.out 0).trans hE
    obtain rfl := (HX.out 0).trans hV
    have HS3 := (((HS2.out.setc 0 (.int .i64 o)).setc 1 (.bool b)).setc 2 (.slice s1 0 cap1)).setc 3 (.int .i64 l)
    exact bodyPost_ret (results_cell_tmp Try.results19 rfl rfl HS3.c Try.underlying36 rfl size36) rfl ⟨_, _, _, HN.out, rfl, (HS3.own.mono (by have := HS3.eg; omega)).rw, HS3.be⟩
  have hg0 : ((N : Int) == 0) = false := by simpa using h0
  by_cases h1 : 0 < l
  · have HV : Hid (ppE ⟨o, b, q, l⟩ = 7) := by unfold ppE; rw [if_pos (Or.inr h1)]; exact hid rfl
    have HE : Hid (pp ⟨o, b, q, l⟩ = ⟨o, b, q, l⟩) := by unfold pp; rw [HV.out]; exact hid rfl
    go_wp2
    have hE := HE.out
    have hV := HV.out
    obtain rfl := (HR.out 0).trans hE
    obtain rfl := (HX.out 0).trans hV
    have HS3 := (((HS2.out.setc 0 (.int .i64 o)).setc 1 (.bool b)).setc 2 (.slice s1 N cap1)).setc 3 (.int .i64 l)
    exact bodyPost_ret (results_cell_tmp Try.results19 rfl rfl HS3.c Try.underlying36 rfl size36) rfl ⟨_, _, _, HN.out, rfl, (HS3.own.mono (by have := HS3.eg; omega)).rw, HS3.be⟩
  have HV : Hid (ppE ⟨o, b, q, l⟩ = 0) := by unfold ppE; rw [if_neg (by have := HN.out; simp only; omega)]; exact hid rfl
  have HE : Hid (pp ⟨o, b, q, l⟩ = ⟨o, b, q.drop 1, turns (q.getD 1 0)⟩) := by unfold pp; rw [HV.out]; exact hid rfl
  have hl1 : 1 ≤ N := by omega
  have hl0 : (1 : Int) ≤ (N : Int) := by omega
  obtain ⟨sb, so, rfl, hc⟩ := HS2.out.own.ints.pos 0 (by omega)
  have hcap : N ≤ cap1 := by
    obtain ⟨_, _, e, hc, _, _⟩ := HS2.out.own.ints
    simp only [Value.slice.injEq] at e
    omega
  clear hc
  by_cases hc1 : cap1 = 1
  · obtain rfl : N = 1 := by omega
    subst hc1
    have HT : Hid (turns (q.getD 1 0) = 0) := by
      have : q.getD 1 0 = 0 := by
        rw [List.getD, List.getElem?_eq_none (by have := HN.out; omega)]; rfl
      rw [this]; exact hid rfl
    go_wp2
    have hE := HE.out
    rw [HT.out] at hE
    have hV := HV.out
    obtain rfl := (HR.out 0).trans hE
    obtain rfl := (HX.out 0).trans hV
    have HS3 := (((((HS2.out.seta 2 (.slice (some ⟨sb, so, none⟩) 0 0)).seta 3 (.int .i64 0)).setc 0 (.int .i64 o)).setc 1 (.bool b)).setc 2 (.slice (some ⟨sb, so, none⟩) 0 0)).setc 3 (.int .i64 0)
    exact bodyPost_ret (results_cell_tmp Try.results19 rfl rfl HS3.c Try.underlying36 rfl size36) rfl ⟨_, _, _, (by simp only [List.length_drop]; have := HN.out; omega), rfl, (OwnI.drop1n (HS3.own.mono (by have := HS3.eg; omega)) (by have := HN.out; omega)), HS3.be⟩
  · have hc2 : 1 < cap1 := by omega
    by_cases hn1 : N = 1
    · subst hn1
      have HT : Hid (turns (q.getD 1 0) = 0) := by
        have : q.getD 1 0 = 0 := by
          rw [List.getD, List.getElem?_eq_none (by have := HN.out; omega)]; rfl
        rw [this]; exact hid rfl
      go_wp2
      have hE := HE.out
      rw [HT.out] at hE
      have hV := HV.out
      obtain rfl := (HR.out 0).trans hE
      obtain rfl := (HX.out 0).trans hV
      have HS3 := (((((HS2.out.seta 2 (.slice (some ⟨sb, so + 1, none⟩) 0 (cap1 - 1))).seta 3 (.int .i64 0)).setc 0 (.int .i64 o)).setc 1 (.bool b)).setc 2 (.slice (some ⟨sb, so + 1, none⟩) 0 (cap1 - 1))).setc 3 (.int .i64 0)
      exact bodyPost_ret (results_cell_tmp Try.results19 rfl rfl HS3.c Try.underlying36 rfl size36) rfl ⟨_, _, _, (by simp only [List.length_drop]; have := HN.out; omega), rfl, ((OwnI.drop1 (HS3.own.mono (by have := HS3.eg; omega)) (by omega)).1), HS3.be⟩
    · have hn2 : 2 ≤ N := by omega
      have hg3 : (0 : Int) < (((N - 1 : Nat)) : Int) := by omega
      have hg4 : 0 < N - 1 := by omega
      have z0 : ∀ W', OwnI W' (g + 2) (.slice (some ⟨sb, so, none⟩) N cap1) q → W'.cell? ⟨sb, so + 1, none⟩ = some (.int .i64 (q.getD 1 0)) := fun W' h => by
        obtain ⟨sb', so', e, hc'⟩ := h.ints.pos 1 (by omega)
        cases e
        exact hc' 1 (by omega)
      have HZ := hid z0
      clear z0
      have hne : sb ≠ g := by have := (HS2.out.own.block sb rfl).1; omega
      have hne1 : sb ≠ g + 1 := by have := (HS2.out.own.block sb rfl).1; omega
      go_upto_region 7 with fail
      obtain ⟨w3, hw3⟩ : ∃ w3, w3 = (w2.setCell ⟨g, 2, none⟩ (.slice (some ⟨sb, so + 1, none⟩) (N - 1) (cap1 - 1))).setCell ⟨g, 3, none⟩ (.int .i64 0) := ⟨_, rfl⟩
      have HS3 : Hid (St w w3 g [.int .i64 o, .bool b, .slice (some ⟨sb, so + 1, none⟩) (N - 1) (cap1 - 1), .int .i64 0] [.int .i64 0, .bool false, .slice none 0 0, .int .i64 0] (.slice (some ⟨sb, so, none⟩) N cap1) q) := by rw [hw3]; exact (HS2.out.seta 2 (.slice (some ⟨sb, so + 1, none⟩) (N - 1) (cap1 - 1))).seta 3 (.int .i64 0)
      rw [← hw3]
      clear hw3 d0 d1 d2 d3 e0 e1 e2 e3 f0 f1
      have z1 := HZ.out _ HS3.out.own
      generalize q.getD 1 0 = z at *
      have d0 : w3.cell? ⟨g, 0, none⟩ = some (.int .i64 o) := HS3.out.a.cell 0
      have d1 : w3.cell? ⟨g, 1, none⟩ = some (.bool b) := HS3.out.a.cell 1
      have d2 : w3.cell? ⟨g, 2, none⟩ = some (.slice (some ⟨sb, so + 1, none⟩) (N - 1) (cap1 - 1)) := HS3.out.a.cell 2
      have d3 : w3.cell? ⟨g, 3, none⟩ = some (.int .i64 0) := HS3.out.a.cell 3
      have e0 : w3.cell? ⟨g + 1, 0, none⟩ = some (.int .i64 0) := HS3.out.c.cell 0
      have e1 : w3.cell? ⟨g + 1, 1, none⟩ = some (.bool false) := HS3.out.c.cell 1
      have e2 : w3.cell? ⟨g + 1, 2, none⟩ = some (.slice none 0 0) := HS3.out.c.cell 2
      have e3 : w3.cell? ⟨g + 1, 3, none⟩ = some (.int .i64 0) := HS3.out.c.cell 3
      have f0 := HS3.out.a.frozen
      have f1 := HS3.out.c.frozen
      go_wp2_with fail
      refine Calls.mono (h10.out _ _) ?_
      rintro e w4 ⟨rfl, hb⟩
      have HS4 := hid (HS3.out.below hb)
      clear hb d0 d1 d2 d3 e0 e1 e2 e3 f0 f1 h10 z1
      generalize turns z = T at *
      generalize cost z = U at *
      generalize st z 60 10 25 12 = U1 at *
      generalize st z 4 1 6 2 = U2 at *
      generalize st z 3 1 2 1 = U3 at *
      generalize st z 5 3 4 6 = U4 at *
      go_upto_region 8 with fail
      obtain ⟨w5, hw5⟩ : ∃ w5, w5 = w4.alloc (.cells #[.int .i64 U, .int .i64 T, .int .i64 U1, .int .i64 U2, .int .i64 U3, .int .i64 U4] 28) := ⟨_, rfl⟩
      have HS5 := hid (HS4.out.below (by rw [hw5]; exact (Below.refl _ _).alloc (Nat.le_refl _) _ : Below w4.heap.size w4 w5))
      have t1 : w5.cell? ⟨w4.heap.size, 1, none⟩ = some (.int .i64 T) := by rw [hw5]; exact (Blk.new w4 [.int .i64 U, .int .i64 T, .int .i64 U1, .int .i64 U2, .int .i64 U3, .int .i64 U4] 28).cell 1
      rw [← hw5]
      clear hw5 HS4
      have d0 : w5.cell? ⟨g, 0, none⟩ = some (.int .i64 o) := HS5.out.a.cell 0
      have d1 : w5.cell? ⟨g, 1, none⟩ = some (.bool b) := HS5.out.a.cell 1
      have d2 : w5.cell? ⟨g, 2, none⟩ = some (.slice (some ⟨sb, so + 1, none⟩) (N - 1) (cap1 - 1)) := HS5.out.a.cell 2
      have d3 : w5.cell? ⟨g, 3, none⟩ = some (.int .i64 0) := HS5.out.a.cell 3
      have e0 : w5.cell? ⟨g + 1, 0, none⟩ = some (.int .i64 0) := HS5.out.c.cell 0
      have e1 : w5.cell? ⟨g + 1, 1, none⟩ = some (.bool false) := HS5.out.c.cell 1
      have e2 : w5.cell? ⟨g + 1, 2, none⟩ = some (.slice none 0 0) := HS5.out.c.cell 2
      have e3 : w5.cell? ⟨g + 1, 3, none⟩ = some (.int .i64 0) := HS5.out.c.cell 3
      have f0 := HS5.out.a.frozen
      have f1 := HS5.out.c.frozen
      go_wp2
      have hE := HE.out
      have hV := HV.out
      obtain rfl := (HR.out 0).trans hE
      obtain rfl := (HX.out 0).trans hV
      have HS3 := ((((HS5.out.seta 3 (.int .i64 T)).setc 0 (.int .i64 o)).setc 1 (.bool b)).setc 2 (.slice (some ⟨sb, so + 1, none⟩) (N - 1) (cap1 - 1))).setc 3 (.int .i64 T)
      exact bodyPost_ret (results_cell_tmp Try.results19 rfl rfl HS3.c Try.underlying36 rfl size36) rfl ⟨_, _, _, (by simp only [List.length_drop]; have := HN.out; omega), rfl, ((OwnI.drop1 (HS3.own.mono (by have := HS3.eg; omega)) (by omega)).1), HS3.be⟩
end Go.Proofs.Ytjkcmedmojidgaa
