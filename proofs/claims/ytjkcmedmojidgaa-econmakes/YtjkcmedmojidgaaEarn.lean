/- Earn 21, the reference's 22. -/
import Derived.Test.YtjkcmedmojidgaaPl
namespace Go.Proofs.Ytjkcmedmojidgaa
open Go.RowKit
section
attribute [local go_sem ↓] run_mn2 run_mx2 run_mn3
set_option maxRecDepth 20000 in
set_option maxHeartbeats 4000000 in
theorem earn_any (o : Int) (b : Bool) (q : List Int) (l k : Int) (s : Option Addr) (cap N : Nat) (w : World) (hI : IntsAt w (.slice s N cap) q) (hN : N = q.length) (hs : N ≤ 1000000) (ho : I64 o) :
    Calls Try.prog 21 #[.agg #[.int .i64 o, .bool b, .slice s N cap, .int .i64 l], .int .i64 k] w fun e w' => OutQ w (earn ⟨o, b, q, l⟩ k) e w' := by
  obtain ⟨R, hR⟩ : ∃ R, R = earn ⟨o, b, q, l⟩ k := ⟨_, rfl⟩
  rw [← hR]
  have HR := hid (fun (_ : Nat) => hR)
  clear hR
  have h23 : Hid (∀ W, IntsAt W (.slice s N cap) q → Calls Try.prog 23 #[.agg #[.int .i64 o, .bool b, .slice s N cap, .int .i64 l]] W fun e w' => ∃ p cap, e = .returned (.agg #[.int .i64 o, .bool b, .slice p N cap, .int .i64 l]) ∧ OwnI w' W.heap.size (.slice p N cap) q ∧ Below W.heap.size W w') := fun W h => apart_any o b q l s cap N W h hN hs
  have HB : Hid (-9223372036854775808 ≤ o ∧ o ≤ 9223372036854775807) := ho
  clear ho
  have HEL : Hid (0 ≤ mn2 (mx2 k 0) 100000 ∧ mn2 (mx2 k 0) 100000 ≤ 100000) := by unfold mn2 mx2; exact hid (by omega)
  obtain ⟨W, hW⟩ : ∃ W, W = (w.alloc (.cells #[.int .i64 o, .bool b, .slice s N cap, .int .i64 l] 36)).alloc (.cells #[.int .i64 0, .bool false, .slice none 0 0, .int .i64 0] 36) := ⟨_, rfl⟩
  obtain ⟨g, hg⟩ : ∃ g, g = w.heap.size := ⟨_, rfl⟩
  have HBW : Hid (Below w.heap.size w W) := by rw [hW]; exact ((Below.refl _ _).alloc (Nat.le_refl _) _).alloc (by simp) _
  have HSZ : Hid (W.heap.size = g + 2) := by rw [hW, hg]; simp [Hid]
  have HTA : Hid (Blk W g [.int .i64 o, .bool b, .slice s N cap, .int .i64 l] 36) := by rw [hW]; exact (Blk.new' _ _ _ _ hg).alloc _
  have HTC : Hid (Blk W (g + 1) [.int .i64 0, .bool false, .slice none 0 0, .int .i64 0] 36) := by rw [hW]; exact Blk.new' _ _ _ _ (by rw [hg]; simp)
  have HI := hid (hI.below HBW.out)
  have HG := hid (fun (_ : Nat) => hg)
  have HN : Hid (N = q.length) := hN
  have HNS : Hid (N ≤ 1000000) := hs
  clear hI hN hs
  go_enter Try.func21, Try.ntmps21
  go_upto_region 1 with fail
  rw [← hW, ← hg]
  have c0 : W.cell? ⟨g, 0, none⟩ = some (.int .i64 o) := HTA.out.cell 0
  have c1 : W.cell? ⟨g, 1, none⟩ = some (.bool b) := HTA.out.cell 1
  have c2 : W.cell? ⟨g, 2, none⟩ = some (.slice s N cap) := HTA.out.cell 2
  have c3 : W.cell? ⟨g, 3, none⟩ = some (.int .i64 l) := HTA.out.cell 3
  clear hW hg
  go_wp2_with fail
  refine Calls.mono (h23.out _ HI.out) ?_
  rintro e w1 ⟨s1, cap1, rfl, ho, hb⟩
  have HS1 : Hid (St w w1 g [.int .i64 o, .bool b, .slice s N cap, .int .i64 l] [.int .i64 0, .bool false, .slice none 0 0, .int .i64 0] (.slice s1 N cap1) q) :=
    ⟨HTA.out.below hb HTA.out.lt, HTC.out.below hb HTC.out.lt, by rw [HSZ.out] at ho; exact ho, HBW.out.trans (hb.mono HBW.out.size), HG.out 0⟩
  clear c0 c1 c2 c3 ho hb HBW HTA HTC HI HSZ h23
  have d0 : w1.cell? ⟨g, 0, none⟩ = some (.int .i64 o) := HS1.out.a.cell 0
  have d1 : w1.cell? ⟨g, 1, none⟩ = some (.bool b) := HS1.out.a.cell 1
  have d2 : w1.cell? ⟨g, 2, none⟩ = some (.slice s N cap) := HS1.out.a.cell 2
  have d3 : w1.cell? ⟨g, 3, none⟩ = some (.int .i64 l) := HS1.out.a.cell 3
  have f0 := HS1.out.a.frozen
  go_upto_region 2 with fail
  obtain ⟨w2, hw2⟩ : ∃ w2, w2 = ((((w1.setCell ⟨g, 0, none⟩ (.int .i64 o)).setCell ⟨g, 1, none⟩ (.bool b)).setCell ⟨g, 2, none⟩ (.slice s1 N cap1)).setCell ⟨g, 3, none⟩ (.int .i64 l)) := ⟨_, rfl⟩
  rw [← hw2]
  have HS2 : Hid (St w w2 g [.int .i64 o, .bool b, .slice s1 N cap1, .int .i64 l] [.int .i64 0, .bool false, .slice none 0 0, .int .i64 0] (.slice s1 N cap1) q) := by rw [hw2]; exact (((HS1.out.seta 0 (.int .i64 o)).seta 1 (.bool b)).seta 2 (.slice s1 N cap1)).seta 3 (.int .i64 l)
  clear hw2 d0 d1 d2 d3 f0 HS1
  have d0 : w2.cell? ⟨g, 0, none⟩ = some (.int .i64 o) := HS2.out.a.cell 0
  have d1 : w2.cell? ⟨g, 1, none⟩ = some (.bool b) := HS2.out.a.cell 1
  have d2 : w2.cell? ⟨g, 2, none⟩ = some (.slice s1 N cap1) := HS2.out.a.cell 2
  have d3 : w2.cell? ⟨g, 3, none⟩ = some (.int .i64 l) := HS2.out.a.cell 3
  have e0 : w2.cell? ⟨g + 1, 0, none⟩ = some (.int .i64 0) := HS2.out.c.cell 0
  have e1 : w2.cell? ⟨g + 1, 1, none⟩ = some (.bool false) := HS2.out.c.cell 1
  have e2 : w2.cell? ⟨g + 1, 2, none⟩ = some (.slice none 0 0) := HS2.out.c.cell 2
  have e3 : w2.cell? ⟨g + 1, 3, none⟩ = some (.int .i64 0) := HS2.out.c.cell 3
  have f0 := HS2.out.a.frozen
  have f1 := HS2.out.c.frozen
  by_cases h1 : o < 100000
  · have hE : earn ⟨o, b, q, l⟩ k = ⟨mn2 (o + mn2 (mx2 k 0) 100000) 100000, b, q, l⟩ := by unfold earn; rw [if_pos h1]
    have HE := hid hE
    have w1' : wrap64 (o + mn2 (mx2 k 0) 100000) = o + mn2 (mx2 k 0) 100000 := by have := HB.out; have := HEL.out; unfold wrap64; omega
    clear hE
    go_wp2
    have hE := HE.out
    obtain rfl := (HR.out 0).trans hE
    have HS3 := ((((HS2.out.seta 0 (.int .i64 (mn2 (o + mn2 (mx2 k 0) 100000) 100000))).setc 0 (.int .i64 (mn2 (o + mn2 (mx2 k 0) 100000) 100000))).setc 1 (.bool b)).setc 2 (.slice s1 N cap1)).setc 3 (.int .i64 l)
    exact bodyPost_ret (results_cell Try.results21 rfl HS3.c Try.underlying36 rfl size36) rfl ⟨_, _, _, HN.out, rfl, (HS3.own.mono (by have := HS3.eg; omega)).rw, HS3.be⟩
  · have hE : earn ⟨o, b, q, l⟩ k = ⟨o, b, q, l⟩ := by unfold earn; rw [if_neg h1]
    have HE := hid hE
    clear hE
    go_wp2
    have hE := HE.out
    obtain rfl := (HR.out 0).trans hE
    have HS3 := (((HS2.out.setc 0 (.int .i64 o)).setc 1 (.bool b)).setc 2 (.slice s1 N cap1)).setc 3 (.int .i64 l)
    exact bodyPost_ret (results_cell Try.results21 rfl HS3.c Try.underlying36 rfl size36) rfl ⟨_, _, _, HN.out, rfl, (HS3.own.mono (by have := HS3.eg; omega)).rw, HS3.be⟩
set_option maxRecDepth 20000 in
set_option maxHeartbeats 4000000 in
theorem refEarn_any (o : Int) (b : Bool) (q : List Int) (l k : Int) (s : Option Addr) (cap N : Nat) (w : World) (hI : IntsAt w (.slice s N cap) q) (hN : N = q.length) (hs : N ≤ 1000000) (ho : I64 o) :
    Calls Try.prog 22 #[.agg #[.int .i64 o, .bool b, .slice s N cap, .int .i64 l], .int .i64 k] w fun e w' => OutQ w (earn ⟨o, b, q, l⟩ k) e w' := by
  obtain ⟨R, hR⟩ : ∃ R, R = earn ⟨o, b, q, l⟩ k := ⟨_, rfl⟩
  rw [← hR]
  have HR := hid (fun (_ : Nat) => hR)
  clear hR
  have h25 : Hid (∀ W, IntsAt W (.slice s N cap) q → Calls Try.prog 25 #[.agg #[.int .i64 o, .bool b, .slice s N cap, .int .i64 l]] W fun e w' => ∃ p cap, e = .returned (.agg #[.int .i64 o, .bool b, .slice p N cap, .int .i64 l]) ∧ OwnI w' W.heap.size (.slice p N cap) q ∧ Below W.heap.size W w') := fun W h => refCopied_any o b q l s cap N W h hN hs
  have HB : Hid (-9223372036854775808 ≤ o ∧ o ≤ 9223372036854775807) := ho
  clear ho
  obtain ⟨W, hW⟩ : ∃ W, W = (w.alloc (.cells #[.int .i64 o, .bool b, .slice s N cap, .int .i64 l] 36)).alloc (.cells #[.int .i64 0, .bool false, .slice none 0 0, .int .i64 0] 36) := ⟨_, rfl⟩
  obtain ⟨g, hg⟩ : ∃ g, g = w.heap.size := ⟨_, rfl⟩
  have HBW : Hid (Below w.heap.size w W) := by rw [hW]; exact ((Below.refl _ _).alloc (Nat.le_refl _) _).alloc (by simp) _
  have HSZ : Hid (W.heap.size = g + 2) := by rw [hW, hg]; simp [Hid]
  have HTA : Hid (Blk W g [.int .i64 o, .bool b, .slice s N cap, .int .i64 l] 36) := by rw [hW]; exact (Blk.new' _ _ _ _ hg).alloc _
  have HTC : Hid (Blk W (g + 1) [.int .i64 0, .bool false, .slice none 0 0, .int .i64 0] 36) := by rw [hW]; exact Blk.new' _ _ _ _ (by rw [hg]; simp)
  have HI := hid (hI.below HBW.out)
  have HG := hid (fun (_ : Nat) => hg)
  have HN : Hid (N = q.length) := hN
  have HNS : Hid (N ≤ 1000000) := hs
  clear hI hN hs
  go_enter Try.func22, Try.ntmps22
  go_upto_region 1 with fail
  rw [← hW, ← hg]
  have c0 : W.cell? ⟨g, 0, none⟩ = some (.int .i64 o) := HTA.out.cell 0
  have c1 : W.cell? ⟨g, 1, none⟩ = some (.bool b) := HTA.out.cell 1
  have c2 : W.cell? ⟨g, 2, none⟩ = some (.slice s N cap) := HTA.out.cell 2
  have c3 : W.cell? ⟨g, 3, none⟩ = some (.int .i64 l) := HTA.out.cell 3
  clear hW hg
  go_wp2_with fail
  refine Calls.mono (h25.out _ HI.out) ?_
  rintro e w1 ⟨s1, cap1, rfl, ho, hb⟩
  have HS1 : Hid (St w w1 g [.int .i64 o, .bool b, .slice s N cap, .int .i64 l] [.int .i64 0, .bool false, .slice none 0 0, .int .i64 0] (.slice s1 N cap1) q) :=
    ⟨HTA.out.below hb HTA.out.lt, HTC.out.below hb HTC.out.lt, by rw [HSZ.out] at ho; exact ho, HBW.out.trans (hb.mono HBW.out.size), HG.out 0⟩
  clear c0 c1 c2 c3 ho hb HBW HTA HTC HI HSZ h25
  have d0 : w1.cell? ⟨g, 0, none⟩ = some (.int .i64 o) := HS1.out.a.cell 0
  have d1 : w1.cell? ⟨g, 1, none⟩ = some (.bool b) := HS1.out.a.cell 1
  have d2 : w1.cell? ⟨g, 2, none⟩ = some (.slice s N cap) := HS1.out.a.cell 2
  have d3 : w1.cell? ⟨g, 3, none⟩ = some (.int .i64 l) := HS1.out.a.cell 3
  have f0 := HS1.out.a.frozen
  go_upto_region 2 with fail
  obtain ⟨w2, hw2⟩ : ∃ w2, w2 = ((((w1.setCell ⟨g, 0, none⟩ (.int .i64 o)).setCell ⟨g, 1, none⟩ (.bool b)).setCell ⟨g, 2, none⟩ (.slice s1 N cap1)).setCell ⟨g, 3, none⟩ (.int .i64 l)) := ⟨_, rfl⟩
  rw [← hw2]
  have HS2 : Hid (St w w2 g [.int .i64 o, .bool b, .slice s1 N cap1, .int .i64 l] [.int .i64 0, .bool false, .slice none 0 0, .int .i64 0] (.slice s1 N cap1) q) := by rw [hw2]; exact (((HS1.out.seta 0 (.int .i64 o)).seta 1 (.bool b)).seta 2 (.slice s1 N cap1)).seta 3 (.int .i64 l)
  clear hw2 d0 d1 d2 d3 f0 HS1
  have d0 : w2.cell? ⟨g, 0, none⟩ = some (.int .i64 o) := HS2.out.a.cell 0
  have d1 : w2.cell? ⟨g, 1, none⟩ = some (.bool b) := HS2.out.a.cell 1
  have d2 : w2.cell? ⟨g, 2, none⟩ = some (.slice s1 N cap1) := HS2.out.a.cell 2
  have d3 : w2.cell? ⟨g, 3, none⟩ = some (.int .i64 l) := HS2.out.a.cell 3
  have e0 : w2.cell? ⟨g + 1, 0, none⟩ = some (.int .i64 0) := HS2.out.c.cell 0
  have e1 : w2.cell? ⟨g + 1, 1, none⟩ = some (.bool false) := HS2.out.c.cell 1
  have e2 : w2.cell? ⟨g + 1, 2, none⟩ = some (.slice none 0 0) := HS2.out.c.cell 2
  have e3 : w2.cell? ⟨g + 1, 3, none⟩ = some (.int .i64 0) := HS2.out.c.cell 3
  have f0 := HS2.out.a.frozen
  have f1 := HS2.out.c.frozen
  by_cases h0 : 0 < k
  · by_cases h1 : o < 100000
    · have eL : mn2 (mx2 k 0) 100000 = mn2 k 100000 := by unfold mn2 mx2; omega
      have HEL : Hid (0 ≤ mn2 k 100000 ∧ mn2 k 100000 ≤ 100000) := by unfold mn2; exact hid (by omega)
      have HE : Hid (earn ⟨o, b, q, l⟩ k = ⟨mn2 (o + mn2 k 100000) 100000, b, q, l⟩) := by unfold earn; rw [if_pos h1, eL]; exact hid rfl
      clear eL
      have w1' : wrap64 (o + mn2 k 100000) = o + mn2 k 100000 := by have := HB.out; have := HEL.out; unfold wrap64; omega
      go_wp2
      have hE := HE.out
      obtain rfl := (HR.out 0).trans hE
      have HS3 := ((((HS2.out.seta 0 (.int .i64 (mn2 (o + mn2 k 100000) 100000))).setc 0 (.int .i64 (mn2 (o + mn2 k 100000) 100000))).setc 1 (.bool b)).setc 2 (.slice s1 N cap1)).setc 3 (.int .i64 l)
      exact bodyPost_ret (results_cell Try.results22 rfl HS3.c Try.underlying36 rfl size36) rfl ⟨_, _, _, HN.out, rfl, (HS3.own.mono (by have := HS3.eg; omega)).rw, HS3.be⟩
    · have HE : Hid (earn ⟨o, b, q, l⟩ k = ⟨o, b, q, l⟩) := by unfold earn; rw [if_neg h1]; exact hid rfl
      go_wp2
      have hE := HE.out
      obtain rfl := (HR.out 0).trans hE
      have HS3 := (((HS2.out.setc 0 (.int .i64 o)).setc 1 (.bool b)).setc 2 (.slice s1 N cap1)).setc 3 (.int .i64 l)
      exact bodyPost_ret (results_cell Try.results22 rfl HS3.c Try.underlying36 rfl size36) rfl ⟨_, _, _, HN.out, rfl, (HS3.own.mono (by have := HS3.eg; omega)).rw, HS3.be⟩
  · have HE : Hid (earn ⟨o, b, q, l⟩ k = ⟨o, b, q, l⟩) := by
      unfold earn
      split
      · have e : mn2 (o + mn2 (mx2 k 0) 100000) 100000 = o := by unfold mn2 mx2; simp only at *; omega
        exact congrArg (fun z => Pl.mk z b q l) e
      · exact hid rfl
    go_wp2
    have hE := HE.out
    obtain rfl := (HR.out 0).trans hE
    have HS3 := (((HS2.out.setc 0 (.int .i64 o)).setc 1 (.bool b)).setc 2 (.slice s1 N cap1)).setc 3 (.int .i64 l)
    exact bodyPost_ret (results_cell Try.results22 rfl HS3.c Try.underlying36 rfl size36) rfl ⟨_, _, _, HN.out, rfl, (HS3.own.mono (by have := HS3.eg; omega)).rw, HS3.be⟩
end
end Go.Proofs.Ytjkcmedmojidgaa
