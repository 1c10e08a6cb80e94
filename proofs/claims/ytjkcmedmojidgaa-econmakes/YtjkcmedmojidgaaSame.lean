/- A player of its own memory: the reference's copied 25, the law's 13; whether two players are the same: Same 20. -/
import Derived.Test.YtjkcmedmojidgaaApart
namespace Go.Proofs.Ytjkcmedmojidgaa
open Go.RowKit
set_option maxRecDepth 20000 in
set_option maxHeartbeats 2000000 in
theorem refCopied_any (o : Int) (b : Bool) (xs : List Int) (l : Int) (p : Option Addr) (cap N : Nat) (w : World) (hI : IntsAt w (.slice p N cap) xs) (hM : N = xs.length) (hs : N ≤ 1000000) :
    Calls Try.prog 25 #[.agg #[.int .i64 o, .bool b, .slice p N cap, .int .i64 l]] w fun e w' => OutA w o b xs l N e w' := by
  unfold OutA
  obtain ⟨W, hW⟩ : ∃ W, W = (w.alloc (.cells #[.int .i64 o, .bool b, .slice p N cap, .int .i64 l] 36)).alloc (.cells #[.int .i64 0, .bool false, .slice none 0 0, .int .i64 0] 36) := ⟨_, rfl⟩
  obtain ⟨g, hg⟩ : ∃ g, g = w.heap.size := ⟨_, rfl⟩
  have HBW : Hid (Below w.heap.size w W) := by rw [hW]; exact ((Below.refl _ _).alloc (Nat.le_refl _) _).alloc (by simp) _
  have HSZ : Hid (W.heap.size = g + 2) := by rw [hW, hg]; simp [Hid]
  have HTA : Hid (Blk W g [.int .i64 o, .bool b, .slice p N cap, .int .i64 l] 36) := by rw [hW]; exact (Blk.new' _ _ _ _ hg).alloc _
  have HTC : Hid (Blk W (g + 1) [.int .i64 0, .bool false, .slice none 0 0, .int .i64 0] 36) := by rw [hW]; exact Blk.new' _ _ _ _ (by rw [hg]; simp)
  have HI := hid (hI.below HBW.out)
  have HG := hid (fun (_ : Nat) => hg)
  have HN5 : Hid (([] : List Int).length + xs.length = N) := hid (by simp; omega)
  have HNN : Hid (N ≤ 1000000000) := hid (by omega)
  have HSL : Hid (g + 2 ≤ W.heap.size) := hid (Nat.le_of_eq HSZ.out.symm)
  have HO5 : Hid (OwnI W (g + 2) (.slice none 0 0) []) := hid (OwnI.nil _ _)
  clear hI hM hs
  go_enter Try.func25, Try.ntmps25
  go_upto_region 1 with fail
  rw [← hW, ← hg]
  have c2 : W.cell? ⟨g, 2, none⟩ = some (.slice p N cap) := HTA.out.cell 2
  clear hW hg
  go_wp2_with (first
        | ((with_reducible refine wpL_append (g + 2) (.slice none 0 0) (.slice p N cap) [] xs N HN5.out ?_ ?_ HO5.out HI.out HNN.out HSL.out ?_); (rfl); (rfl); (intro p' cap' w1 ho hb); (have HO1 := hid ho; have HB1 := hid hb; clear ho hb); (have HS1 : Hid (St w w1 g [.int .i64 o, .bool b, .slice p N cap, .int .i64 l] [.int .i64 0, .bool false, .slice none 0 0, .int .i64 0] (.slice p' N cap') xs) := ⟨HTA.out.below HB1.out (by omega), HTC.out.below HB1.out (by omega), by have := HO1.out; rwa [List.nil_append] at this, HBW.out.trans (HB1.out.mono (by have := HG.out 0; omega)), HG.out 0⟩); (have d2 : w1.cell? ⟨g, 2, none⟩ = some (.slice p N cap) := HS1.out.a.cell 2); (have d0 : w1.cell? ⟨g, 0, none⟩ = some (.int .i64 o) := HS1.out.a.cell 0); (have d1 : w1.cell? ⟨g, 1, none⟩ = some (.bool b) := HS1.out.a.cell 1); (have d3 : w1.cell? ⟨g, 3, none⟩ = some (.int .i64 l) := HS1.out.a.cell 3); (have e0 : w1.cell? ⟨g + 1, 0, none⟩ = some (.int .i64 0) := HS1.out.c.cell 0); (have e1 : w1.cell? ⟨g + 1, 1, none⟩ = some (.bool false) := HS1.out.c.cell 1); (have e2 : w1.cell? ⟨g + 1, 2, none⟩ = some (.slice none 0 0) := HS1.out.c.cell 2); (have e3 : w1.cell? ⟨g + 1, 3, none⟩ = some (.int .i64 0) := HS1.out.c.cell 3); (have f0 := HS1.out.a.frozen); (have f1 := HS1.out.c.frozen); (simp only [Act.put, List.setIfInBounds_toArray, List.set_cons_zero, List.set_cons_succ])))
  have HS2 := ((((HS1.out.seta 2 (.slice p' N cap')).setc 0 (.int .i64 o)).setc 1 (.bool b)).setc 2 (.slice p' N cap')).setc 3 (.int .i64 l)
  exact bodyPost_ret (results_cell Try.results25 rfl HS2.c Try.underlying36 rfl size36) rfl ⟨p', cap', rfl, HS2.own.mono (by have := HS2.eg; omega), HS2.be⟩
set_option maxRecDepth 20000 in
set_option maxHeartbeats 2000000 in
theorem copied_any (o : Int) (b : Bool) (xs : List Int) (l : Int) (p : Option Addr) (cap N : Nat) (w : World) (hI : IntsAt w (.slice p N cap) xs) (hM : N = xs.length) (hs : N ≤ 1000000) :
    Calls Try.prog 13 #[.agg #[.int .i64 o, .bool b, .slice p N cap, .int .i64 l]] w fun e w' => OutA w o b xs l N e w' := by
  unfold OutA
  obtain ⟨W, hW⟩ : ∃ W, W = (w.alloc (.cells #[.int .i64 o, .bool b, .slice p N cap, .int .i64 l] 36)).alloc (.cells #[.int .i64 0, .bool false, .slice none 0 0, .int .i64 0] 36) := ⟨_, rfl⟩
  obtain ⟨g, hg⟩ : ∃ g, g = w.heap.size := ⟨_, rfl⟩
  have HBW : Hid (Below w.heap.size w W) := by rw [hW]; exact ((Below.refl _ _).alloc (Nat.le_refl _) _).alloc (by simp) _
  have HSZ : Hid (W.heap.size = g + 2) := by rw [hW, hg]; simp [Hid]
  have HTA : Hid (Blk W g [.int .i64 o, .bool b, .slice p N cap, .int .i64 l] 36) := by rw [hW]; exact (Blk.new' _ _ _ _ hg).alloc _
  have HTC : Hid (Blk W (g + 1) [.int .i64 0, .bool false, .slice none 0 0, .int .i64 0] 36) := by rw [hW]; exact Blk.new' _ _ _ _ (by rw [hg]; simp)
  have HI := hid (hI.below HBW.out)
  have HG := hid (fun (_ : Nat) => hg)
  have HN5 : Hid (([] : List Int).length + xs.length = N) := hid (by simp; omega)
  have HNN : Hid (N ≤ 1000000000) := hid (by omega)
  have HSL : Hid (g + 2 ≤ W.heap.size) := hid (Nat.le_of_eq HSZ.out.symm)
  have HO5 : Hid (OwnI W (g + 2) (.slice none 0 0) []) := hid (OwnI.nil _ _)
  clear hI hM hs
  go_enter Try.func13, Try.ntmps13
  go_upto_region 1 with fail
  rw [← hW, ← hg]
  have c2 : W.cell? ⟨g, 2, none⟩ = some (.slice p N cap) := HTA.out.cell 2
  clear hW hg
  go_wp2_with (first
        | ((with_reducible refine wpL_append (g + 2) (.slice none 0 0) (.slice p N cap) [] xs N HN5.out ?_ ?_ HO5.out HI.out HNN.out HSL.out ?_); (rfl); (rfl); (intro p' cap' w1 ho hb); (have HO1 := hid ho; have HB1 := hid hb; clear ho hb); (have HS1 : Hid (St w w1 g [.int .i64 o, .bool b, .slice p N cap, .int .i64 l] [.int .i64 0, .bool false, .slice none 0 0, .int .i64 0] (.slice p' N cap') xs) := ⟨HTA.out.below HB1.out (by omega), HTC.out.below HB1.out (by omega), by have := HO1.out; rwa [List.nil_append] at this, HBW.out.trans (HB1.out.mono (by have := HG.out 0; omega)), HG.out 0⟩); (have d2 : w1.cell? ⟨g, 2, none⟩ = some (.slice p N cap) := HS1.out.a.cell 2); (have d0 : w1.cell? ⟨g, 0, none⟩ = some (.int .i64 o) := HS1.out.a.cell 0); (have d1 : w1.cell? ⟨g, 1, none⟩ = some (.bool b) := HS1.out.a.cell 1); (have d3 : w1.cell? ⟨g, 3, none⟩ = some (.int .i64 l) := HS1.out.a.cell 3); (have e0 : w1.cell? ⟨g + 1, 0, none⟩ = some (.int .i64 0) := HS1.out.c.cell 0); (have e1 : w1.cell? ⟨g + 1, 1, none⟩ = some (.bool false) := HS1.out.c.cell 1); (have e2 : w1.cell? ⟨g + 1, 2, none⟩ = some (.slice none 0 0) := HS1.out.c.cell 2); (have e3 : w1.cell? ⟨g + 1, 3, none⟩ = some (.int .i64 0) := HS1.out.c.cell 3); (have f0 := HS1.out.a.frozen); (have f1 := HS1.out.c.frozen); (simp only [Act.put, List.setIfInBounds_toArray, List.set_cons_zero, List.set_cons_succ])))
  have HS2 := ((((HS1.out.seta 2 (.slice p' N cap')).setc 0 (.int .i64 o)).setc 1 (.bool b)).setc 2 (.slice p' N cap')).setc 3 (.int .i64 l)
  exact bodyPost_ret (results_cell Try.results13 rfl HS2.c Try.underlying36 rfl size36) rfl ⟨p', cap', rfl, HS2.own.mono (by have := HS2.eg; omega), HS2.be⟩
/-- A player was laid into a block of its own. -/
theorem two_players (w : World) (l m : List Value) (W : World) (B : Nat) (hW : W = (w.alloc (.cells l.toArray 36)).alloc (.cells m.toArray 36)) (hB : B = w.heap.size) :
    Blk W B l 36 ∧ Blk W (B + 1) m 36 ∧ Below w.heap.size w W := by
  subst hW hB
  exact ⟨(Blk.new _ _ _).alloc _, Blk.new' _ _ _ _ (by simp), ((Below.refl _ _).alloc (Nat.le_refl _) _).alloc (by simp) _⟩
set_option maxRecDepth 20000 in
set_option maxHeartbeats 4000000 in
/-- Two players that are the same. -/
theorem same_any (o : Int) (b : Bool) (xs : List Int) (l : Int) (p q : Option Addr) (cap cap' N : Nat) (w : World) (hI : IntsAt w (.slice p N cap) xs) (hJ : IntsAt w (.slice q N cap') xs) (hs : N ≤ 1000000) :
    Calls Try.prog 20 #[.agg #[.int .i64 o, .bool b, .slice p N cap, .int .i64 l], .agg #[.int .i64 o, .bool b, .slice q N cap', .int .i64 l]] w fun e w' => Out w (.bool true) e w' := by
  unfold Out
  obtain ⟨W, hW⟩ : ∃ W, W = (w.alloc (.cells #[.int .i64 o, .bool b, .slice p N cap, .int .i64 l] 36)).alloc (.cells #[.int .i64 o, .bool b, .slice q N cap', .int .i64 l] 36) := ⟨_, rfl⟩
  obtain ⟨g, hg⟩ : ∃ g, g = w.heap.size := ⟨_, rfl⟩
  obtain ⟨ta, tc, tb⟩ := two_players w [.int .i64 o, .bool b, .slice p N cap, .int .i64 l] [.int .i64 o, .bool b, .slice q N cap', .int .i64 l] W g hW hg
  have HTA := hid ta
  have HTC := hid tc
  have HBW := hid tb
  have HI := hid (fun W' (h : Below W.heap.size W W') => (hI.below tb).below h)
  have HJ := hid (fun W' (h : Below W.heap.size W W') => (hJ.below tb).below h)
  have c0 : W.cell? ⟨g, 0, none⟩ = some (.int .i64 o) := HTA.out.cell 0
  have c1 : W.cell? ⟨g, 1, none⟩ = some (.bool b) := HTA.out.cell 1
  have c2 : W.cell? ⟨g, 2, none⟩ = some (.slice p N cap) := HTA.out.cell 2
  have c3 : W.cell? ⟨g, 3, none⟩ = some (.int .i64 l) := HTA.out.cell 3
  have e0 : W.cell? ⟨g + 1, 0, none⟩ = some (.int .i64 o) := HTC.out.cell 0
  have e1 : W.cell? ⟨g + 1, 1, none⟩ = some (.bool b) := HTC.out.cell 1
  have e2 : W.cell? ⟨g + 1, 2, none⟩ = some (.slice q N cap') := HTC.out.cell 2
  have e3 : W.cell? ⟨g + 1, 3, none⟩ = some (.int .i64 l) := HTC.out.cell 3
  have hN' : (N : Int) ≤ 1000000 := by omega
  clear hI hJ ta tc tb hs
  go_enter Try.func20, Try.ntmps20
  go_upto_region 1 with fail
  rw [← hW, ← hg]
  clear hW hg
  go_upto_region 4 with fail
  go_loopw [5] (fun iv wr => ∃ i : Nat, iv = .int .i64 (i : Int) ∧ i ≤ N ∧ Hid (Below W.heap.size W wr)) (fun iv _ => N - (intOf iv).toNat)
  case atStart => exact ⟨0, rfl, by omega, Below.refl _ _⟩
  case round =>
    obtain ⟨i, rfl, hi, HB⟩ := hrel
    have HTAr := hid (HTA.out.below HB.out HTA.out.lt)
    have HTCr := hid (HTC.out.below HB.out HTC.out.lt)
    clear c0 c1 c2 c3 e0 e1 e2 e3
    have k2 : ∀ n, (wr.drewN n).cell? ⟨g, 2, none⟩ = some (.slice p N cap) := fun n => (HTAr.out.drewN n).cell 2
    have m2 : ∀ n, (wr.drewN n).cell? ⟨g + 1, 2, none⟩ = some (.slice q N cap') := fun n => (HTCr.out.drewN n).cell 2
    have k2' : wr.cell? ⟨g, 2, none⟩ = some (.slice p N cap) := HTAr.out.cell 2
    by_cases hlt : i < N
    · obtain ⟨sb, so, rfl, hc⟩ := (HI.out wr HB.out).pos i hlt
      obtain ⟨sb', so', rfl, hc'⟩ := (HJ.out wr HB.out).pos i hlt
      have z0 : ∀ n, (wr.drewN n).cell? ⟨sb, so + i, none⟩ = some (.int .i64 (xs.getD i 0)) := fun n => hc i hlt
      have z1 : ∀ n, (wr.drewN n).cell? ⟨sb', so' + i, none⟩ = some (.int .i64 (xs.getD i 0)) := fun n => hc' i hlt
      generalize xs.getD i 0 = z at *
      have hl' : (i : Int) < (N : Int) := by omega
      have hl0 : (0 : Int) ≤ (i : Int) := by omega
      clear hc hc'
      go_wp2_with fail
      go_quiet (fail)
      all_goals go_wp2
      all_goals exact ⟨⟨i + 1, by simp, by omega, Below.drewN HB.out _⟩, by simp [intOf]; omega⟩
    · obtain rfl : i = N := by omega
      have hl' : ((i : Int) < (i : Int)) = False := by simp
      go_wp2
      go_ret
      exact ⟨rfl, HBW.out.trans (HB.out.mono HBW.out.size)⟩
end Go.Proofs.Ytjkcmedmojidgaa
