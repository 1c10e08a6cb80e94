/- Two maps that are the same: SameInts 35, Same 14. -/
import Derived.Test.YthinldcblbgdnaaDoorRead
namespace Go.Proofs.YthinldcblbgdnaaDoor
open Go.RowKit
set_option maxRecDepth 20000 in
set_option maxHeartbeats 4000000 in
theorem sameInts_any (xs : List Int) (p q : Option Addr) (N cap cap' : Nat) (w : World) (hl : xs.length = N) (h : IntsAt w (.slice p N cap) xs) (h' : IntsAt w (.slice q N cap') xs) (hN : N ≤ 1000000) : Calls Tryd.prog 35 #[.slice p N cap, .slice q N cap'] w fun e w' => Out w (.bool true) e w' := by
  unfold Out
  have H0 := hid h
  have H1 := hid h'
  have hN' : (N : Int) ≤ 1000000 := by omega
  clear h h' hN hl
  go_enter Tryd.func35, Tryd.ntmps35
  go_wp2_with fail
  go_loopw [5] (fun iv wr => ∃ i : Nat, iv = .int .i64 (i : Int) ∧ i ≤ N ∧ Hid (Below w.heap.size w wr)) (fun iv _ => N - (intOf iv).toNat)
  case atStart => exact ⟨0, rfl, by omega, Below.refl _ _⟩
  case round =>
    obtain ⟨i, rfl, hi, HB⟩ := hrel
    by_cases hlt : i < N
    · obtain ⟨g, o, rfl, hc0⟩ := H0.out.pos i hlt
      obtain ⟨g', o', rfl, hc1⟩ := H1.out.pos i hlt
      have hc := hc0 i hlt
      have hc' := hc1 i hlt
      have c0 : wr.cell? ⟨g, o + i, none⟩ = some (.int .i64 (xs.getD i 0)) := by rw [HB.out.cell (p := ⟨g, o + i, none⟩) (lt_of_cell hc)]; exact hc
      have c1 : wr.cell? ⟨g', o' + i, none⟩ = some (.int .i64 (xs.getD i 0)) := by rw [HB.out.cell (p := ⟨g', o' + i, none⟩) (lt_of_cell hc')]; exact hc'
      have e2 : (i : Int) < (N : Int) := by omega
      have e3 : (0 : Int) ≤ (i : Int) := by omega
      clear hc hc' hc0 hc1
      generalize xs.getD i 0 = X at *
      go_upto_region 6 with fail
      go_quiet (fail)
      all_goals go_wp2
      all_goals exact ⟨⟨i + 1, by simp, by omega, Below.drewN HB.out _⟩, by simp [intOf]; omega⟩
    · obtain rfl : i = N := by omega
      go_wp2
      go_ret
      exact ⟨rfl, HB.out⟩
set_option maxRecDepth 20000 in
set_option maxHeartbeats 4000000 in
theorem same_any (m : Mp) (v v' : Value) (w : World) (h : MapAt w v m) (h' : MapAt w v' m) (hN : m.ts.length ≤ 1000000 ∧ m.os.length ≤ 1000000) : Calls Tryd.prog 14 #[v, v'] w fun e w' => Out w (.bool true) e w' := by
  unfold Out
  obtain ⟨p, c, q, d, rfl, h1, h2⟩ := h
  obtain ⟨p', c', q', d', rfl, h1', h2'⟩ := h'
  obtain ⟨a, b, ts, os⟩ := m
  simp only at h1 h2 h1' h2' hN ⊢
  have K1 := hid (fun W (hW : Below w.heap.size w W) => sameInts_any ts p p' _ c c' W rfl (h1.below hW) (h1'.below hW) hN.1)
  have K2 := hid (fun W (hW : Below w.heap.size w W) => sameInts_any os q q' _ d d' W rfl (h2.below hW) (h2'.below hW) hN.2)
  unfold Out at K1 K2
  generalize ts.length = T at *
  generalize os.length = U at *
  obtain ⟨V, hV⟩ : ∃ V, V = (w.alloc (.cells #[Value.int .i64 a, .int .i64 b, .slice p T c, .slice q U d] 24)).alloc (.cells #[Value.int .i64 a, .int .i64 b, .slice p' T c', .slice q' U d'] 24) := ⟨_, rfl⟩
  obtain ⟨g, hg⟩ : ∃ g, g = w.heap.size := ⟨_, rfl⟩
  have HB : Hid (Below w.heap.size w V) := by rw [hV]; exact hid (((Below.refl _ _).alloc (Nat.le_refl _) _).alloc (by simp) _)
  have HA : Hid (Blk V g [I a, I b, .slice p T c, .slice q U d] 24) := by rw [hV, hg]; exact hid ((Blk.new w [I a, I b, .slice p T c, .slice q U d] 24).alloc _)
  have HC : Hid (Blk V (g + 1) [I a, I b, .slice p' T c', .slice q' U d'] 24) := by rw [hV, hg]; exact hid (Blk.new' _ [I a, I b, .slice p' T c', .slice q' U d'] _ _ (by simp))
  clear h1 h2 h1' h2' hN
  go_enter Tryd.func14, Tryd.ntmps14
  go_upto_region 1 with fail
  rw [← hV, ← hg]
  clear hV hg
  have a0 : V.cell? ⟨g, 0, none⟩ = some (.int .i64 a) := HA.out.cell 0
  have a1 : V.cell? ⟨g, 1, none⟩ = some (.int .i64 b) := HA.out.cell 1
  have a2 : V.cell? ⟨g, 2, none⟩ = some (.slice p T c) := HA.out.cell 2
  have b0 : V.cell? ⟨g + 1, 0, none⟩ = some (.int .i64 a) := HC.out.cell 0
  have b1 : V.cell? ⟨g + 1, 1, none⟩ = some (.int .i64 b) := HC.out.cell 1
  have b2 : V.cell? ⟨g + 1, 2, none⟩ = some (.slice p' T c') := HC.out.cell 2
  go_wp2_with fail
  refine Calls.mono (K1.out V HB.out) ?_
  rintro e w1 ⟨rfl, hb1⟩
  have a3 : w1.cell? ⟨g, 3, none⟩ = some (.slice q U d) := (HA.out.below hb1 HA.out.lt).cell 3
  have b3 : w1.cell? ⟨g + 1, 3, none⟩ = some (.slice q' U d') := (HC.out.below hb1 HC.out.lt).cell 3
  have HB1 := hid (HB.out.trans (hb1.mono HB.out.size))
  clear hb1 a0 a1 a2 b0 b1 b2
  go_wp2_with fail
  refine Calls.mono (K2.out w1 HB1.out) ?_
  rintro e w2 ⟨rfl, hb2⟩
  go_wp2
  go_ret
  exact ⟨rfl, HB1.out.trans (hb2.mono HB1.out.size)⟩
end Go.Proofs.YthinldcblbgdnaaDoor
