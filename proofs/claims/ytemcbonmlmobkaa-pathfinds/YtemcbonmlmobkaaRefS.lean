/- The reference: which cell comes first; two rows of the same cells are found to be the same. -/
import Derived.Test.YtemcbonmlmobkaaNear
import Derived.Test.YtemcbonmlmobkaaSmall
import Derived.BigQuiet
namespace Go.Proofs.Ytemcbonmlmobkaa
open Go.RowKit
def less (ax ay bx by_ : Int) : Bool := decide (ay < by_) || (decide (ay = by_) && decide (ax < bx))
theorem below_two (w : World) (b c) : Below w.heap.size w ((w.alloc b).alloc c) := ((Below.refl _ _).alloc (Nat.le_refl _) _).alloc (by simp) _
theorem CellsAt.atS {w : World} {p : Option Addr} {N cap : Nat} {cs : List (Int × Int)} (h : CellsAt w (.slice p N cap) cs) {i : Nat} (hi : i < N) : ∃ b o, p = some ⟨b, o, none⟩ ∧ ∀ W, Below w.heap.size w W → W.cell? ⟨b, o + i * 2, none⟩ = some (.int .i64 (cs.getD i (0, 0)).1) ∧ W.cell? ⟨b, o + i * 2 + 1, none⟩ = some (.int .i64 (cs.getD i (0, 0)).2) := by
  obtain ⟨p', c', he, h⟩ := h
  simp at he
  obtain ⟨rfl, rfl, rfl⟩ := he
  obtain ⟨b, o, rfl, hc⟩ := h (by rintro rfl; simp at hi)
  exact ⟨b, o, rfl, fun W hW => by rw [hW.cell (p := ⟨b, o + i * 2, none⟩) (lt_of_cell (hc i hi).1), hW.cell (p := ⟨b, o + i * 2 + 1, none⟩) (lt_of_cell (hc i hi).2)]; exact hc i hi⟩
set_option maxRecDepth 100000 in
set_option maxHeartbeats 4000000 in
theorem refSameCells (cs : List (Int × Int)) (p q : Option Addr) (N cap cap' : Nat) (w : World) (h : CellsAt w (.slice p N cap) cs) (h' : CellsAt w (.slice q N cap') cs) (hsz : N < 1000000000) :
    Calls Try.prog 14 #[.slice p N cap, .slice q N cap'] w fun e w' => Out w (.bool true) e w' := by
  unfold Out
  have H0 := hid h
  have H1 := hid h'
  clear h h'
  go_enter Try.func14, Try.ntmps14
  go_wp2_with fail
  go_loopw [5] (fun iv wr => ∃ i : Nat, iv = .int .i64 (i : Int) ∧ i ≤ N ∧ Hid (Below w.heap.size w wr)) (fun iv _ => N - (intOf iv).toNat)
  case atStart => exact ⟨0, rfl, by omega, Below.refl _ _⟩
  case round =>
    obtain ⟨i, rfl, hi, HB⟩ := hrel
    by_cases hlt : i < N
    · obtain ⟨b, o, rfl, hc⟩ := H0.out.atS hlt
      obtain ⟨b', o', rfl, hc'⟩ := H1.out.atS hlt
      obtain ⟨c0, c1⟩ := hc wr HB.out
      obtain ⟨f0, f1⟩ := hc' wr HB.out
      have e2 : (i : Int) < (N : Int) := by omega
      have e3 : (0 : Int) ≤ (i : Int) := by omega
      clear hc hc'
      generalize (cs.getD i (0, 0)).1 = X at *
      generalize (cs.getD i (0, 0)).2 = Y at *
      go_upto_region 6 with fail
      go_quiet (fail)
      all_goals go_wp2
      all_goals exact ⟨⟨i + 1, by simp, by omega, Below.drewN HB.out _⟩, by simp [intOf]; omega⟩
    · obtain rfl : i = N := by omega
      go_wp2
      go_ret
      exact ⟨rfl, HB.out⟩
end Go.Proofs.Ytemcbonmlmobkaa
