/- Lists held side by side. -/
import Derived.Test.YtdagkeklfhlcnaaOfs
namespace Go.Proofs.Ytdagkeklfhlcnaa
open Go.RowKit
set_option maxRecDepth 20000 in
set_option maxHeartbeats 4000000 in
theorem sameInts_any (xs : List Int) (base base' : Nat) (p q : Option Addr) (N cap cap' : Nat) (w : World) (h : OwnI w base (.slice p N cap) xs) (h' : OwnI w base' (.slice q N cap') xs) (hN : N ≤ 1000000) : Calls Try.prog 25 #[.slice p N cap, .slice q N cap'] w fun e w' => Out w (.bool true) e w' := by
  unfold Out
  have H0 := hid h
  have H1 := hid h'
  have hN' : (N : Int) ≤ 1000000 := by omega
  clear h h' hN
  go_enter Try.func25, Try.ntmps25
  go_wp2_with fail
  go_loopw [5] (fun iv wr => ∃ i : Nat, iv = .int .i64 (i : Int) ∧ i ≤ N ∧ Hid (Below w.heap.size w wr)) (fun iv _ => N - (intOf iv).toNat)
  case atStart => exact ⟨0, rfl, by omega, Below.refl _ _⟩
  case round =>
    obtain ⟨i, rfl, hi, HB⟩ := hrel
    by_cases hlt : i < N
    · obtain ⟨g, rfl, hg, hc⟩ := H0.out.at hlt
      obtain ⟨g', rfl, hg', hc'⟩ := H1.out.at hlt
      have c0 : wr.cell? ⟨g, i, none⟩ = some (.int .i64 (xs.getD i 0)) := by rw [HB.out.cell (p := ⟨g, i, none⟩) hg]; exact hc
      have c1 : wr.cell? ⟨g', i, none⟩ = some (.int .i64 (xs.getD i 0)) := by rw [HB.out.cell (p := ⟨g', i, none⟩) hg']; exact hc'
      have e2 : (i : Int) < (N : Int) := by omega
      have e3 : (0 : Int) ≤ (i : Int) := by omega
      clear hc hc'
      generalize xs.getD i 0 = X at *
      go_upto_region 6 with fail
      go_quiet (fail)
      all_goals go_wp2
      all_goals exact ⟨⟨i + 1, by simp, by omega, Below.drewN HB.out _⟩, by simp [intOf]; omega⟩
    · obtain rfl : i = N := by omega
      go_wp2
      go_ret
      exact ⟨rfl, HB.out⟩
set_option maxRecDepth 20000 in
set_option maxHeartbeats 4000000 in
theorem same_any (l : List (List Int)) (base base' : Nat) (p q : Option Addr) (N cap cap' : Nat) (w : World) (h : OwnE w base (.slice p N cap) l) (h' : OwnE w base' (.slice q N cap') l) (hN : N ≤ 1000000) : Calls Try.prog 12 #[.slice p N cap, .slice q N cap'] w fun e w' => Out w (.bool true) e w' := by
  unfold Out
  have H0 := hid h
  have H1 := hid h'
  have hN' : (N : Int) ≤ 1000000 := by omega
  clear h h' hN
  go_enter Try.func12, Try.ntmps12
  go_wp2_with fail
  go_loopw [5] (fun iv wr => ∃ i : Nat, iv = .int .i64 (i : Int) ∧ i ≤ N ∧ Hid (Below w.heap.size w wr)) (fun iv _ => N - (intOf iv).toNat)
  case atStart => exact ⟨0, rfl, by omega, Below.refl _ _⟩
  case round =>
    obtain ⟨i, rfl, hi, HB⟩ := hrel
    by_cases hlt : i < N
    · obtain ⟨g, z0, z1, z2, z3, z4, z5, z6, z7, z8, z9, z10, rfl, -, hg, he, hc⟩ := H0.out.nums i hlt
      obtain ⟨g', y0, y1, y2, y3, y4, y5, y6, y7, y8, y9, y10, rfl, -, hg', he', hc'⟩ := H1.out.nums i hlt
      rw [he] at he'
      simp only [List.cons.injEq, and_true] at he'
      obtain ⟨rfl, rfl, rfl, rfl, rfl, rfl, rfl, rfl, rfl, rfl, rfl⟩ := he'
      obtain ⟨c0, c1, c2, c3, c4, c5, c6, c7, c8, c9, c10⟩ := hc wr (HB.out.block g hg)
      obtain ⟨e0, e1, e2, e3, e4, e5, e6, e7, e8, e9, e10⟩ := hc' wr (HB.out.block g' hg')
      have e2 : (i : Int) < (N : Int) := by omega
      have e3 : (0 : Int) ≤ (i : Int) := by omega
      clear hc hc' he hg hg'
      go_upto_region 6 with fail
      go_quiet (fail)
      all_goals go_wp2
      all_goals exact ⟨⟨i + 1, by simp, by omega, Below.drewN HB.out _⟩, by simp [intOf]; omega⟩
    · obtain rfl : i = N := by omega
      go_wp2
      go_ret
      exact ⟨rfl, HB.out⟩
end Go.Proofs.Ytdagkeklfhlcnaa
