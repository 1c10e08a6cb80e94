/- SameInts 16 of two that are the same. -/
import Derived.Test.YtnilgnnlobiojaaSmall
import Derived.BigQuiet
namespace Go.Proofs.Ytnilgnnlobiojaa
open Go.RowKit
set_option maxRecDepth 20000 in
set_option maxHeartbeats 4000000 in
theorem sameInts_any (xs : List Int) (p q : Option Addr) (N cap cap' : Nat) (w : World) (h : IntsAt w (.slice p N cap) xs) (h' : IntsAt w (.slice q N cap') xs) (hN : N ≤ 1000000) : Calls Try.prog 16 #[.slice p N cap, .slice q N cap'] w fun e w' => Out w (.bool true) e w' := by
  unfold Out
  have H0 := hid h
  have H1 := hid h'
  have hN' : (N : Int) ≤ 1000000 := by omega
  clear h h' hN
  go_enter Try.func16, Try.ntmps16
  go_wp2_with fail
  go_loopw [5] (fun iv wr => ∃ i : Nat, iv = .int .i64 (i : Int) ∧ i ≤ N ∧ Hid (Below w.heap.size w wr)) (fun iv _ => N - (intOf iv).toNat)
  case atStart => exact ⟨0, rfl, by omega, Below.refl _ _⟩
  case round =>
    obtain ⟨i, rfl, hi, HB⟩ := hrel
    by_cases hlt : i < N
    · obtain ⟨g, o, rfl, hc⟩ := H0.out.pos i hlt
      obtain ⟨g', o', rfl, hc'⟩ := H1.out.pos i hlt
      have hc := hc i hlt
      have hc' := hc' i hlt
      have c0 : wr.cell? ⟨g, o + i, none⟩ = some (.int .i64 (xs.getD i 0)) := by rw [HB.out.cell (p := ⟨g, o + i, none⟩) (lt_of_cell hc)]; exact hc
      have c1 : wr.cell? ⟨g', o' + i, none⟩ = some (.int .i64 (xs.getD i 0)) := by rw [HB.out.cell (p := ⟨g', o' + i, none⟩) (lt_of_cell hc')]; exact hc'
      have e2 : (i : Int) < (N : Int) := by omega
      have e3 : (0 : Int) ≤ (i : Int) := by omega
      clear hc hc'
      generalize xs.getD i 0 = X at *
      go_upto_region 6 with fail
      go_quiet (fail)
      all_goals go_wp2
      all_goals exact ⟨⟨i + 1, by simp, by omega, Below.drewN HB.out _⟩, by simp [intOf]; omega⟩
    · obtain rfl : i = N := by omega
      go_wp2
      go_ret
      exact ⟨rfl, HB.out⟩
end Go.Proofs.Ytnilgnnlobiojaa
