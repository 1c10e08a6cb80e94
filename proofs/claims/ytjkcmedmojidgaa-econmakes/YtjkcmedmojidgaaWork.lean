/- Work 16, the reference's 17. -/
import Derived.Test.YtjkcmedmojidgaaPl
namespace Go.Proofs.Ytjkcmedmojidgaa
open Go.RowKit
set_option maxRecDepth 20000 in
set_option maxHeartbeats 4000000 in
theorem work_any (o : Int) (b : Bool) (q : List Int) (l : Int) (s : Option Addr) (cap N : Nat) (w : World) (hI : IntsAt w (.slice s N cap) q) (hN : N = q.length) (hs : N ≤ 1000000) (hl : I64 l) :
    Calls Try.prog 16 #[.agg #[.int .i64 o, .bool b, .slice s N cap, .int .i64 l]] w fun e w' => OutP w (wk ⟨o, b, q, l⟩) (wkV ⟨o, b, q, l⟩) e w' := by
  obtain ⟨R, hR⟩ : ∃ R, R = wk ⟨o, b, q, l⟩ := ⟨_, rfl⟩
  rw [← hR]
  have HR := hid (fun (_ : Nat) => hR)
  clear hR
  obtain ⟨X, hX⟩ : ∃ X, X = wkV ⟨o, b, q, l⟩ := ⟨_, rfl⟩
  rw [← hX]
  have HX := hid (fun (_ : Nat) => hX)
  clear hX
  have h23 : Hid (∀ W, IntsAt W (.slice s N cap) q → Calls Try.prog 23 #[.agg #[.int .i64 o, .bool b, .slice s N cap, .int .i64 l]] W fun e w' => ∃ p cap, e = .returned (.agg #[.int .i64 o, .bool b, .slice p N cap, .int .i64 l]) ∧ OwnI w' W.heap.size (.slice p N cap) q ∧ Below W.heap.size W w') := fun W h => apart_any o b q l s cap N W h hN hs
  have HB : Hid (-9223372036854775808 ≤ l ∧ l ≤ 9223372036854775807) := hl
  clear hl
  obtain ⟨W, hW⟩ : ∃ W, W = (w.alloc (.cells #[.int .i64 o, .bool b, .slice s N cap, .int .i64 l] 36)).alloc (.cells #[.int .i64 0, .bool false, .slice none 0 0, .int .i64 0] 36) := ⟨_, rfl⟩
  obtain ⟨g, hg⟩ : ∃ g, g = w.heap.size := ⟨_, rfl⟩
  have HBW : Hid (Below w.heap.size w W) := by rw [hW]; exact ((Below.refl _ _).alloc (Nat.le_refl _) _).alloc (by simp) _
  have HSZ : Hid (W.heap.size = g + 2) := by rw [hW, hg]; simp [Hid]
  have HTA : Hid (Blk W g [.int .i64 o, .bool b, .slice s N cap, .int .i64 l] 36) := by rw [hW]; exact (Blk.new' _ _ _ _ hg).alloc _
  have HTC : Hid (Blk W (g + 1) [.int .i64 0, .bool false, .slice none 0 0, .int .i64 0] 36) := by rw [hW]; exact Blk.new' _ _ _ _ (by rw [hg]; simp)
  have HI := hid (hI.below HBW.out)
  have HG := hid (fun (_ : Nat) => hg)
  have HN : Hid (N = q.length) := hN
  have HNS : Hid (N ≤ 1000000) := hs
  clear hI hN hs
  go_enter Try.func16, Try.ntmps16
  go_upto_region 1 with fail
  rw [← hW, ← hg]
  have c0 : W.cell? ⟨g, 0, none⟩ = some (.int .i64 o) := HTA.out.cell 0
  have c1 : W.cell? ⟨g, 1, none⟩ = some (.bool b) := HTA.out.cell 1
  have c2 : W.cell? ⟨g, 2, none⟩ = some (.slice s N cap) := HTA.out.cell 2
  have c3 : W.cell? ⟨g, 3, none⟩ = some (.int .i64 l) := HTA.out.cell 3
  clear hW hg
  go_wp2_with fail
  refine Calls.mono (h23.out _ HI.out) ?_
  rintro e w1 ⟨s1, cap1, rfl, ho, hb⟩
  have HS1 : Hid (St w w1 g [.int .i64 o, .bool b, .slice s N cap, .int .i64 l] [.int .i64 0, .bool false, .slice none 0 0, .int .i64 0] (.slice s1 N cap1) q) :=
    ⟨HTA.out.below hb HTA.out.lt, HTC.out.below hb HTC.out.lt, by rw [HSZ.out] at ho; exact ho, HBW.out.trans (hb.mono HBW.out.size), HG.out 0⟩
  clear c0 c1 c2 c3 ho hb HBW HTA HTC HI HSZ h23
  have d0 : w1.cell? ⟨g, 0, none⟩ = some (.int .i64 o) := HS1.out.a.cell 0
  have d1 : w1.cell? ⟨g, 1, none⟩ = some (.bool b) := HS1.out.a.cell 1
  have d2 : w1.cell? ⟨g, 2, none⟩ = some (.slice s N cap) := HS1.out.a.cell 2
  have d3 : w1.cell? ⟨g, 3, none⟩ = some (.int .i64 l) := HS1.out.a.cell 3
  have f0 := HS1.out.a.frozen
  go_upto_region 2 with fail
  obtain ⟨w2, hw2⟩ : ∃ w2, w2 = ((((w1.setCell ⟨g, 0, none⟩ (.int .i64 o)).setCell ⟨g, 1, none⟩ (.bool b)).setCell ⟨g, 2, none⟩ (.slice s1 N cap1)).setCell ⟨g, 3, none⟩ (.int .i64 l)) := ⟨_, rfl⟩
  rw [← hw2]
  have HS2 : Hid (St w w2 g [.int .i64 o, .bool b, .slice s1 N cap1, .int .i64 l] [.int .i64 0, .bool false, .slice none 0 0, .int .i64 0] (.slice s1 N cap1) q) := by rw [hw2]; exact (((HS1.out.seta 0 (.int .i64 o)).seta 1 (.bool b)).seta 2 (.slice s1 N cap1)).seta 3 (.int .i64 l)
  clear hw2 d0 d1 d2 d3 f0 HS1
  have d0 : w2.cell? ⟨g, 0, none⟩ = some (.int .i64 o) := HS2.out.a.cell 0
  have d1 : w2.cell? ⟨g, 1, none⟩ = some (.bool b) := HS2.out.a.cell 1
  have d2 : w2.cell? ⟨g, 2, none⟩ = some (.slice s1 N cap1) := HS2.out.a.cell 2
  have d3 : w2.cell? ⟨g, 3, none⟩ = some (.int .i64 l) := HS2.out.a.cell 3
  have e0 : w2.cell? ⟨g + 1, 0, none⟩ = some (.int .i64 0) := HS2.out.c.cell 0
  have e1 : w2.cell? ⟨g + 1, 1, none⟩ = some (.bool false) := HS2.out.c.cell 1
  have e2 : w2.cell? ⟨g + 1, 2, none⟩ = some (.slice none 0 0) := HS2.out.c.cell 2
  have e3 : w2.cell? ⟨g + 1, 3, none⟩ = some (.int .i64 0) := HS2.out.c.cell 3
  have f0 := HS2.out.a.frozen
  have f1 := HS2.out.c.frozen
  rcases Bool.eq_false_or_eq_true b with hb | hb
  case' inr =>
    subst hb
    have HE : Hid (wk ⟨o, false, q, l⟩ = ⟨o, false, q, l⟩) := by unfold wk; rw [if_pos (Or.inl rfl)]; exact hid rfl
    have HV : Hid (wkV ⟨o, false, q, l⟩ = 0) := by unfold wkV; rw [if_pos (Or.inl rfl)]; exact hid rfl
    go_wp2
    have hE := HE.out
    have hV := HV.out
    obtain rfl := (HR.out 0).trans hE
    obtain rfl := (HX.out 0).trans hV
    have HS3 := (((HS2.out.setc 0 (.int .i64 o)).setc 1 (.bool false)).setc 2 (.slice s1 N cap1)).setc 3 (.int .i64 l)
    exact bodyPost_ret (results_cell_tmp Try.results16 rfl rfl HS3.c Try.underlying36 rfl size36) rfl ⟨_, _, _, HN.out, rfl, (HS3.own.mono (by have := HS3.eg; omega)).rw, HS3.be⟩
  subst hb
  by_cases h0 : N = 0
  · have HE : Hid (wk ⟨o, true, q, l⟩ = ⟨o, true, q, l⟩) := by unfold wk; rw [if_pos (Or.inr (HN.out.symm.trans h0))]; exact hid rfl
    have HV : Hid (wkV ⟨o, true, q, l⟩ = 0) := by unfold wkV; rw [if_pos (Or.inr (HN.out.symm.trans h0))]; exact hid rfl
    subst h0
    go_wp2
    have hE := HE.out
    have hV := HV.out
    obtain rfl := (HR.out 0).trans hE
    obtain rfl := (HX.out 0).trans hV
    have HS3 := (((HS2.out.setc 0 (.int .i64 o)).setc 1 (.bool true)).setc 2 (.slice s1 0 cap1)).setc 3 (.int .i64 l)
    exact bodyPost_ret (results_cell_tmp Try.results16 rfl rfl HS3.c Try.underlying36 rfl size36) rfl ⟨_, _, _, HN.out, rfl, (HS3.own.mono (by have := HS3.eg; omega)).rw, HS3.be⟩
  have hn : Hid (¬ (true = false ∨ q.length = 0)) := by have := HN.out; exact hid (by simp; intro e; subst e; simp at this; exact h0 this)
  have hg0 : ((N : Int) == 0) = false := by simpa using h0
  by_cases h1 : 0 < l
  · have hE : wk ⟨o, true, q, l⟩ = ⟨o, true, q, l - 1⟩ := by unfold wk; rw [if_neg hn.out, if_pos h1]
    by_cases h2 : 0 < l - 1
    · have HV : Hid (wkV ⟨o, true, q, l⟩ = 0) := by unfold wkV; rw [if_neg hn.out, hE, if_pos h2]; exact hid rfl
      have HE := hid hE
      have w1' : wrap64 (l - 1) = l - 1 := by have := HB.out; unfold wrap64; omega
      clear hE h0
      go_wp2
      have hE := HE.out
      have hV := HV.out
      obtain rfl := (HR.out 0).trans hE
      obtain rfl := (HX.out 0).trans hV
      have HS3 := ((((HS2.out.seta 3 (.int .i64 (l - 1))).setc 0 (.int .i64 o)).setc 1 (.bool true)).setc 2 (.slice s1 N cap1)).setc 3 (.int .i64 (l - 1))
      exact bodyPost_ret (results_cell_tmp Try.results16 rfl rfl HS3.c Try.underlying36 rfl size36) rfl ⟨_, _, _, HN.out, rfl, (HS3.own.mono (by have := HS3.eg; omega)).rw, HS3.be⟩
    · have HV : Hid (wkV ⟨o, true, q, l⟩ = q.getD 0 0) := by unfold wkV; rw [if_neg hn.out, hE, if_neg h2]; exact hid rfl
      have HE := hid hE
      clear hE
      obtain rfl : l = 1 := by omega
      clear h1 h2
      have hl0 : (0 : Int) < (N : Int) := by omega
      have hl1 : 0 < N := by omega
      obtain ⟨sb, so, rfl, hc⟩ := HS2.out.own.ints.pos 0 (by omega)
      have hne : sb ≠ g + 1 := by have := (HS2.out.own.block sb rfl).1; omega
      go_upto_region 8 with fail
      obtain ⟨w3, hw3⟩ : ∃ w3, w3 = w2.setCell ⟨g, 3, none⟩ (.int .i64 0) := ⟨_, rfl⟩
      have HS3 := HS2.out.seta 3 (.int .i64 0)
      rw [← hw3] at HS3 ⊢
      have HS4 := hid HS3
      have z0 : w3.cell? ⟨sb, so, none⟩ = some (.int .i64 (q.getD 0 0)) := by
        obtain ⟨sb', so', e, hc'⟩ := HS3.own.ints.pos 0 (by omega)
        cases e
        exact hc' 0 (by omega)
      clear d0 d1 d2 d3 e0 e1 e2 e3 f0 f1 hc hw3 HS3
      have d0 : w3.cell? ⟨g, 0, none⟩ = some (.int .i64 o) := HS4.out.a.cell 0
      have d1 : w3.cell? ⟨g, 1, none⟩ = some (.bool true) := HS4.out.a.cell 1
      have d2 : w3.cell? ⟨g, 2, none⟩ = some (.slice (some ⟨sb, so, none⟩) N cap1) := HS4.out.a.cell 2
      have d3 : w3.cell? ⟨g, 3, none⟩ = some (.int .i64 0) := HS4.out.a.cell 3
      have e0 : w3.cell? ⟨g + 1, 0, none⟩ = some (.int .i64 0) := HS4.out.c.cell 0
      have e1 : w3.cell? ⟨g + 1, 1, none⟩ = some (.bool false) := HS4.out.c.cell 1
      have e2 : w3.cell? ⟨g + 1, 2, none⟩ = some (.slice none 0 0) := HS4.out.c.cell 2
      have e3 : w3.cell? ⟨g + 1, 3, none⟩ = some (.int .i64 0) := HS4.out.c.cell 3
      have f0 := HS4.out.a.frozen
      have f1 := HS4.out.c.frozen
      generalize q.getD 0 0 = z at *
      go_region
      go_wp2
      have hE := HE.out
      have hV := HV.out
      obtain rfl := (HR.out 0).trans hE
      obtain rfl := (HX.out 0).trans hV
      have HS3 := ((((HS4.out.setc 0 (.int .i64 o)).setc 1 (.bool true)).setc 2 (.slice (some ⟨sb, so, none⟩) N cap1)).setc 3 (.int .i64 0)).drew
      exact bodyPost_ret (results_cell_tmp Try.results16 rfl rfl HS3.c Try.underlying36 rfl size36) rfl ⟨_, _, _, HN.out, rfl, (HS3.own.mono (by have := HS3.eg; omega)).rw, HS3.be⟩
  · have hE : wk ⟨o, true, q, l⟩ = ⟨o, true, q, l⟩ := by unfold wk; rw [if_neg hn.out, if_neg h1]
    have HV : Hid (wkV ⟨o, true, q, l⟩ = q.getD 0 0) := by unfold wkV; rw [if_neg hn.out, hE, if_neg h1]; exact hid rfl
    have HE := hid hE
    clear hE
    have hl0 : (0 : Int) < (N : Int) := by omega
    have hl1 : 0 < N := by omega
    obtain ⟨sb, so, rfl, hc⟩ := HS2.out.own.ints.pos 0 (by omega)
    have hne : sb ≠ g + 1 := by have := (HS2.out.own.block sb rfl).1; omega
    go_upto_region 8 with fail
    obtain ⟨w3, hw3⟩ : ∃ w3, w3 = w2 := ⟨_, rfl⟩
    have HS3 := HS2.out
    rw [← hw3] at HS3 ⊢
    have HS4 := hid HS3
    have z0 : w3.cell? ⟨sb, so, none⟩ = some (.int .i64 (q.getD 0 0)) := by
      obtain ⟨sb', so', e, hc'⟩ := HS3.own.ints.pos 0 (by omega)
      cases e
      exact hc' 0 (by omega)
    clear d0 d1 d2 d3 e0 e1 e2 e3 f0 f1 hc hw3 HS3
    have d0 : w3.cell? ⟨g, 0, none⟩ = some (.int .i64 o) := HS4.out.a.cell 0
    have d1 : w3.cell? ⟨g, 1, none⟩ = some (.bool true) := HS4.out.a.cell 1
    have d2 : w3.cell? ⟨g, 2, none⟩ = some (.slice (some ⟨sb, so, none⟩) N cap1) := HS4.out.a.cell 2
    have d3 : w3.cell? ⟨g, 3, none⟩ = some (.int .i64 l) := HS4.out.a.cell 3
    have e0 : w3.cell? ⟨g + 1, 0, none⟩ = some (.int .i64 0) := HS4.out.c.cell 0
    have e1 : w3.cell? ⟨g + 1, 1, none⟩ = some (.bool false) := HS4.out.c.cell 1
    have e2 : w3.cell? ⟨g + 1, 2, none⟩ = some (.slice none 0 0) := HS4.out.c.cell 2
    have e3 : w3.cell? ⟨g + 1, 3, none⟩ = some (.int .i64 0) := HS4.out.c.cell 3
    have f0 := HS4.out.a.frozen
    have f1 := HS4.out.c.frozen
    generalize q.getD 0 0 = z at *
    go_region
    go_wp2
    have hE := HE.out
    have hV := HV.out
    obtain rfl := (HR.out 0).trans hE
    obtain rfl := (HX.out 0).trans hV
    have HS3 := ((((HS4.out.setc 0 (.int .i64 o)).setc 1 (.bool true)).setc 2 (.slice (some ⟨sb, so, none⟩) N cap1)).setc 3 (.int .i64 l)).drew
    exact bodyPost_ret (results_cell_tmp Try.results16 rfl rfl HS3.c Try.underlying36 rfl size36) rfl ⟨_, _, _, HN.out, rfl, (HS3.own.mono (by have := HS3.eg; omega)).rw, HS3.be⟩

set_option maxRecDepth 20000 in
set_option maxHeartbeats 4000000 in
theorem refWork_any (o : Int) (b : Bool) (q : List Int) (l : Int) (s : Option Addr) (cap N : Nat) (w : World) (hI : IntsAt w (.slice s N cap) q) (hN : N = q.length) (hs : N ≤ 1000000) (hl : I64 l) :
    Calls Try.prog 17 #[.agg #[.int .i64 o, .bool b, .slice s N cap, .int .i64 l]] w fun e w' => OutP w (wk ⟨o, b, q, l⟩) (wkV ⟨o, b, q, l⟩) e w' := by
  obtain ⟨R, hR⟩ : ∃ R, R = wk ⟨o, b, q, l⟩ := ⟨_, rfl⟩
  rw [← hR]
  have HR := hid (fun (_ : Nat) => hR)
  clear hR
  obtain ⟨X, hX⟩ : ∃ X, X = wkV ⟨o, b, q, l⟩ := ⟨_, rfl⟩
  rw [← hX]
  have HX := hid (fun (_ : Nat) => hX)
  clear hX
  have h25 : Hid (∀ W, IntsAt W (.slice s N cap) q → Calls Try.prog 25 #[.agg #[.int .i64 o, .bool b, .slice s N cap, .int .i64 l]] W fun e w' => ∃ p cap, e = .returned (.agg #[.int .i64 o, .bool b, .slice p N cap, .int .i64 l]) ∧ OwnI w' W.heap.size (.slice p N cap) q ∧ Below W.heap.size W w') := fun W h => refCopied_any o b q l s cap N W h hN hs
  have HB : Hid (-9223372036854775808 ≤ l ∧ l ≤ 9223372036854775807) := hl
  clear hl
  obtain ⟨W, hW⟩ : ∃ W, W = (w.alloc (.cells #[.int .i64 o, .bool b, .slice s N cap, .int .i64 l] 36)).alloc (.cells #[.int .i64 0, .bool false, .slice none 0 0, .int .i64 0] 36) := ⟨_, rfl⟩
  obtain ⟨g, hg⟩ : ∃ g, g = w.heap.size := ⟨_, rfl⟩
  have HBW : Hid (Below w.heap.size w W) := by rw [hW]; exact ((Below.refl _ _).alloc (Nat.le_refl _) _).alloc (by simp) _
  have HSZ : Hid (W.heap.size = g + 2) := by rw [hW, hg]; simp [Hid]
  have HTA : Hid (Blk W g [.int .i64 o, .bool b, .slice s N cap, .int .i64 l] 36) := by rw [hW]; exact (Blk.new' _ _ _ _ hg).alloc _
  have HTC : Hid (Blk W (g + 1) [.int .i64 0, .bool false, .slice none 0 0, .int .i64 0] 36) := by rw [hW]; exact Blk.new' _ _ _ _ (by rw [hg]; simp)
  have HI := hid (hI.below HBW.out)
  have HG := hid (fun (_ : Nat) => hg)
  have HN : Hid (N = q.length) := hN
  have HNS : Hid (N ≤ 1000000) := hs
  clear hI hN hs
  go_enter Try.func17, Try.ntmps17
  go_upto_region 1 with fail
  rw [← hW, ← hg]
  have c0 : W.cell? ⟨g, 0, none⟩ = some (.int .i64 o) := HTA.out.cell 0
  have c1 : W.cell? ⟨g, 1, none⟩ = some (.bool b) := HTA.out.cell 1
  have c2 : W.cell? ⟨g, 2, none⟩ = some (.slice s N cap) := HTA.out.cell 2
  have c3 : W.cell? ⟨g, 3, none⟩ = some (.int .i64 l) := HTA.out.cell 3
  clear hW hg
  go_wp2_with fail
  refine Calls.mono (h25.out _ HI.out) ?_
  rintro e w1 ⟨s1, cap1, rfl, ho, hb⟩
  have HS1 : Hid (St w w1 g [.int .i64 o, .bool b, .slice s N cap, .int .i64 l] [.int .i64 0, .bool false, .slice none 0 0, .int .i64 0] (.slice s1 N cap1) q) :=
    ⟨HTA.out.below hb HTA.out.lt, HTC.out.below hb HTC.out.lt, by rw [HSZ.out] at ho; exact ho, HBW.out.trans (hb.mono HBW.out.size), HG.out 0⟩
  clear c0 c1 c2 c3 ho hb HBW HTA HTC HI HSZ h25
  have d0 : w1.cell? ⟨g, 0, none⟩ = some (.int .i64 o) := HS1.out.a.cell 0
  have d1 : w1.cell? ⟨g, 1, none⟩ = some (.bool b) := HS1.out.a.cell 1
  have d2 : w1.cell? ⟨g, 2, none⟩ = some (.slice s N cap) := HS1.out.a.cell 2
  have d3 : w1.cell? ⟨g, 3, none⟩ = some (.int .i64 l) := HS1.out.a.cell 3
  have f0 := HS1.out.a.frozen
  go_upto_region 2 with fail
  obtain ⟨w2, hw2⟩ : ∃ w2, w2 = ((((w1.setCell ⟨g, 0, none⟩ (.int .i64 o)).setCell ⟨g, 1, none⟩ (.bool b)).setCell ⟨g, 2, none⟩ (.slice s1 N cap1)).setCell ⟨g, 3, none⟩ (.int .i64 l)) := ⟨_, rfl⟩
  rw [← hw2]
  have HS2 : Hid (St w w2 g [.int .i64 o, .bool b, .slice s1 N cap1, .int .i64 l] [.int .i64 0, .bool false, .slice none 0 0, .int .i64 0] (.slice s1 N cap1) q) := by rw [hw2]; exact (((HS1.out.seta 0 (.int .i64 o)).seta 1 (.bool b)).seta 2 (.slice s1 N cap1)).seta 3 (.int .i64 l)
  clear hw2 d0 d1 d2 d3 f0 HS1
  have d0 : w2.cell? ⟨g, 0, none⟩ = some (.int .i64 o) := HS2.out.a.cell 0
  have d1 : w2.cell? ⟨g, 1, none⟩ = some (.bool b) := HS2.out.a.cell 1
  have d2 : w2.cell? ⟨g, 2, none⟩ = some (.slice s1 N cap1) := HS2.out.a.cell 2
  have d3 : w2.cell? ⟨g, 3, none⟩ = some (.int .i64 l) := HS2.out.a.cell 3
  have e0 : w2.cell? ⟨g + 1, 0, none⟩ = some (.int .i64 0) := HS2.out.c.cell 0
  have e1 : w2.cell? ⟨g + 1, 1, none⟩ = some (.bool false) := HS2.out.c.cell 1
  have e2 : w2.cell? ⟨g + 1, 2, none⟩ = some (.slice none 0 0) := HS2.out.c.cell 2
  have e3 : w2.cell? ⟨g + 1, 3, none⟩ = some (.int .i64 0) := HS2.out.c.cell 3
  have f0 := HS2.out.a.frozen
  have f1 := HS2.out.c.frozen
  rcases Bool.eq_false_or_eq_true b with hb | hb
  case' inr =>
    subst hb
    have HE : Hid (wk ⟨o, false, q, l⟩ = ⟨o, false, q, l⟩) := by unfold wk; rw [if_pos (Or.inl rfl)]; exact hid rfl
    have HV : Hid (wkV ⟨o, false, q, l⟩ = 0) := by unfold wkV; rw [if_pos (Or.inl rfl)]; exact hid rfl
    go_wp2
    have hE := HE.out
    have hV := HV.out
    obtain rfl := (HR.out 0).trans hE
    obtain rfl := (HX.out 0).trans hV
    have HS3 := (((HS2.out.setc 0 (.int .i64 o)).setc 1 (.bool false)).setc 2 (.slice s1 N cap1)).setc 3 (.int .i64 l)
    exact bodyPost_ret (results_cell_tmp Try.results17 rfl rfl HS3.c Try.underlying36 rfl size36) rfl ⟨_, _, _, HN.out, rfl, (HS3.own.mono (by have := HS3.eg; omega)).rw, HS3.be⟩
  subst hb
  by_cases h0 : N = 0
  · have HE : Hid (wk ⟨o, true, q, l⟩ = ⟨o, true, q, l⟩) := by unfold wk; rw [if_pos (Or.inr (HN.out.symm.trans h0))]; exact hid rfl
    have HV : Hid (wkV ⟨o, true, q, l⟩ = 0) := by unfold wkV; rw [if_pos (Or.inr (HN.out.symm.trans h0))]; exact hid rfl
    subst h0
    go_wp2
    have hE := HE.out
    have hV := HV.out
    obtain rfl := (HR.out 0).trans hE
    obtain rfl := (HX.out 0).trans hV
    have HS3 := (((HS2.out.setc 0 (.int .i64 o)).setc 1 (.bool true)).setc 2 (.slice s1 0 cap1)).setc 3 (.int .i64 l)
    exact bodyPost_ret (results_cell_tmp Try.results17 rfl rfl HS3.c Try.underlying36 rfl size36) rfl ⟨_, _, _, HN.out, rfl, (HS3.own.mono (by have := HS3.eg; omega)).rw, HS3.be⟩
  have hn : Hid (¬ (true = false ∨ q.length = 0)) := by have := HN.out; exact hid (by simp; intro e; subst e; simp at this; exact h0 this)
  have hg0 : ((N : Int) == 0) = false := by simpa using h0
  by_cases h1 : 0 < l
  · have hE : wk ⟨o, true, q, l⟩ = ⟨o, true, q, l - 1⟩ := by unfold wk; rw [if_neg hn.out, if_pos h1]
    by_cases h2 : 0 < l - 1
    · have HV : Hid (wkV ⟨o, true, q, l⟩ = 0) := by unfold wkV; rw [if_neg hn.out, hE, if_pos h2]; exact hid rfl
      have HE := hid hE
      have w1' : wrap64 (l - 1) = l - 1 := by have := HB.out; unfold wrap64; omega
      clear hE h0
      go_wp2
      have hE := HE.out
      have hV := HV.out
      obtain rfl := (HR.out 0).trans hE
      obtain rfl := (HX.out 0).trans hV
      have HS3 := ((((HS2.out.seta 3 (.int .i64 (l - 1))).setc 0 (.int .i64 o)).setc 1 (.bool true)).setc 2 (.slice s1 N cap1)).setc 3 (.int .i64 (l - 1))
      exact bodyPost_ret (results_cell_tmp Try.results17 rfl rfl HS3.c Try.underlying36 rfl size36) rfl ⟨_, _, _, HN.out, rfl, (HS3.own.mono (by have := HS3.eg; omega)).rw, HS3.be⟩
    · have HV : Hid (wkV ⟨o, true, q, l⟩ = q.getD 0 0) := by unfold wkV; rw [if_neg hn.out, hE, if_neg h2]; exact hid rfl
      have HE := hid hE
      clear hE
      obtain rfl : l = 1 := by omega
      clear h1 h2
      have hl0 : (0 : Int) < (N : Int) := by omega
      have hl1 : 0 < N := by omega
      obtain ⟨sb, so, rfl, hc⟩ := HS2.out.own.ints.pos 0 (by omega)
      have hne : sb ≠ g + 1 := by have := (HS2.out.own.block sb rfl).1; omega
      go_upto_region 8 with fail
      obtain ⟨w3, hw3⟩ : ∃ w3, w3 = w2.setCell ⟨g, 3, none⟩ (.int .i64 0) := ⟨_, rfl⟩
      have HS3 := HS2.out.seta 3 (.int .i64 0)
      rw [← hw3] at HS3 ⊢
      have HS4 := hid HS3
      have z0 : w3.cell? ⟨sb, so, none⟩ = some (.int .i64 (q.getD 0 0)) := by
        obtain ⟨sb', so', e, hc'⟩ := HS3.own.ints.pos 0 (by omega)
        cases e
        exact hc' 0 (by omega)
      clear d0 d1 d2 d3 e0 e1 e2 e3 f0 f1 hc hw3 HS3
      have d0 : w3.cell? ⟨g, 0, none⟩ = some (.int .i64 o) := HS4.out.a.cell 0
      have d1 : w3.cell? ⟨g, 1, none⟩ = some (.bool true) := HS4.out.a.cell 1
      have d2 : w3.cell? ⟨g, 2, none⟩ = some (.slice (some ⟨sb, so, none⟩) N cap1) := HS4.out.a.cell 2
      have d3 : w3.cell? ⟨g, 3, none⟩ = some (.int .i64 0) := HS4.out.a.cell 3
      have e0 : w3.cell? ⟨g + 1, 0, none⟩ = some (.int .i64 0) := HS4.out.c.cell 0
      have e1 : w3.cell? ⟨g + 1, 1, none⟩ = some (.bool false) := HS4.out.c.cell 1
      have e2 : w3.cell? ⟨g + 1, 2, none⟩ = some (.slice none 0 0) := HS4.out.c.cell 2
      have e3 : w3.cell? ⟨g + 1, 3, none⟩ = some (.int .i64 0) := HS4.out.c.cell 3
      have f0 := HS4.out.a.frozen
      have f1 := HS4.out.c.frozen
      generalize q.getD 0 0 = z at *
      go_region
      go_wp2
      have hE := HE.out
      have hV := HV.out
      obtain rfl := (HR.out 0).trans hE
      obtain rfl := (HX.out 0).trans hV
      have HS3 := ((((HS4.out.setc 0 (.int .i64 o)).setc 1 (.bool true)).setc 2 (.slice (some ⟨sb, so, none⟩) N cap1)).setc 3 (.int .i64 0)).drew
      exact bodyPost_ret (results_cell_tmp Try.results17 rfl rfl HS3.c Try.underlying36 rfl size36) rfl ⟨_, _, _, HN.out, rfl, (HS3.own.mono (by have := HS3.eg; omega)).rw, HS3.be⟩
  · have hE : wk ⟨o, true, q, l⟩ = ⟨o, true, q, l⟩ := by unfold wk; rw [if_neg hn.out, if_neg h1]
    have HV : Hid (wkV ⟨o, true, q, l⟩ = q.getD 0 0) := by unfold wkV; rw [if_neg hn.out, hE, if_neg h1]; exact hid rfl
    have HE := hid hE
    clear hE
    have hl0 : (0 : Int) < (N : Int) := by omega
    have hl1 : 0 < N := by omega
    obtain ⟨sb, so, rfl, hc⟩ := HS2.out.own.ints.pos 0 (by omega)
    have hne : sb ≠ g + 1 := by have := (HS2.out.own.block sb rfl).1; omega
    go_upto_region 8 with fail
    obtain ⟨w3, hw3⟩ : ∃ w3, w3 = w2 := ⟨_, rfl⟩
    have HS3 := HS2.out
    rw [← hw3] at HS3 ⊢
    have HS4 := hid HS3
    have z0 : w3.cell? ⟨sb, so, none⟩ = some (.int .i64 (q.getD 0 0)) := by
      obtain ⟨sb', so', e, hc'⟩ := HS3.own.ints.pos 0 (by omega)
      cases e
      exact hc' 0 (by omega)
    clear d0 d1 d2 d3 e0 e1 e2 e3 f0 f1 hc hw3 HS3
    have d0 : w3.cell? ⟨g, 0, none⟩ = some (.int .i64 o) := HS4.out.a.cell 0
    have d1 : w3.cell? ⟨g, 1, none⟩ = some (.bool true) := HS4.out.a.cell 1
    have d2 : w3.cell? ⟨g, 2, none⟩ = some (.slice (some ⟨sb, so, none⟩) N cap1) := HS4.out.a.cell 2
    have d3 : w3.cell? ⟨g, 3, none⟩ = some (.int .i64 l) := HS4.out.a.cell 3
    have e0 : w3.cell? ⟨g + 1, 0, none⟩ = some (.int .i64 0) := HS4.out.c.cell 0
    have e1 : w3.cell? ⟨g + 1, 1, none⟩ = some (.bool false) := HS4.out.c.cell 1
    have e2 : w3.cell? ⟨g + 1, 2, none⟩ = some (.slice none 0 0) := HS4.out.c.cell 2
    have e3 : w3.cell? ⟨g + 1, 3, none⟩ = some (.int .i64 0) := HS4.out.c.cell 3
    have f0 := HS4.out.a.frozen
    have f1 := HS4.out.c.frozen
    generalize q.getD 0 0 = z at *
    go_region
    go_wp2
    have hE := HE.out
    have hV := HV.out
    obtain rfl := (HR.out 0).trans hE
    obtain rfl := (HX.out 0).trans hV
    have HS3 := ((((HS4.out.setc 0 (.int .i64 o)).setc 1 (.bool true)).setc 2 (.slice (some ⟨sb, so, none⟩) N cap1)).setc 3 (.int .i64 l)).drew
    exact bodyPost_ret (results_cell_tmp Try.results17 rfl rfl HS3.c Try.underlying36 rfl size36) rfl ⟨_, _, _, HN.out, rfl, (HS3.own.mono (by have := HS3.eg; omega)).rw, HS3.be⟩

end Go.Proofs.Ytjkcmedmojidgaa
