/- The reference: which cell comes first; two rows of the same cells are found to be the same. -/
import Derived.Test.YteijncfnifebjaaSees
import Derived.Test.YteijncfnifebjaaSmall
import Derived.BigQuiet
namespace Go.Proofs.Yteijncfnifebjaa
open Go.RowKit
def less (ax ay bx by_ : Int) : Bool := decide (ay < by_) || (decide (ay = by_) && decide (ax < bx))
theorem below_two (w : World) (b c) : Below w.heap.size w ((w.alloc b).alloc c) := ((Below.refl _ _).alloc (Nat.le_refl _) _).alloc (by simp) _
set_option maxHeartbeats 2000000 in
theorem refLess_any (ax ay bx by_ : Int) (w : World) : Calls Try.prog 44 #[C ax ay, C bx by_] w fun e w' => Out w (.bool (less ax ay bx by_)) e w' := by
  unfold C Out
  obtain ⟨r, hr⟩ : ∃ r, r = less ax ay bx by_ := ⟨_, rfl⟩
  rw [← hr]
  have Hr : Hid (r = less ax ay bx by_) := hr
  clear hr
  by_cases h1 : ay < by_
  · have e : r = true := by rw [Hr.out]; unfold less; simp [h1]
    subst e
    go_enter Try.func44, Try.ntmps44
    go_wp2
    go_ret
    exact ⟨by simp, below_two _ _ _⟩
  · have g1 : (ay < by_) = False := by simp; omega
    by_cases h2 : ay = by_
    · subst h2
      have e : r = decide (ax < bx) := by rw [Hr.out]; unfold less; simp
      clear Hr
      subst e
      go_enter Try.func44, Try.ntmps44
      go_wp2
      go_ret
      exact ⟨by simp, below_two _ _ _⟩
    · have e : r = false := by rw [Hr.out]; unfold less; simp [h1, h2]
      have g2 : (ay == by_) = false := by simpa using h2
      subst e
      go_enter Try.func44, Try.ntmps44
      go_wp2
      go_ret
      exact ⟨by simp, below_two _ _ _⟩
theorem CellsAt.at {w : World} {p : Option Addr} {N cap : Nat} {cs : List (Int × Int)} (h : CellsAt w (.slice p N cap) cs) {i : Nat} (hi : i < N) : ∃ b o, p = some ⟨b, o, none⟩ ∧ ∀ W, Below w.heap.size w W → W.cell? ⟨b, o + i * 2, none⟩ = some (.int .i64 (cs.getD i (0, 0)).1) ∧ W.cell? ⟨b, o + i * 2 + 1, none⟩ = some (.int .i64 (cs.getD i (0, 0)).2) := by
  obtain ⟨p', c', he, h⟩ := h
  simp at he
  obtain ⟨rfl, rfl, rfl⟩ := he
  obtain ⟨b, o, rfl, hc⟩ := h (by rintro rfl; simp at hi)
  exact ⟨b, o, rfl, fun W hW => by rw [hW.cell (p := ⟨b, o + i * 2, none⟩) (lt_of_cell (hc i hi).1), hW.cell (p := ⟨b, o + i * 2 + 1, none⟩) (lt_of_cell (hc i hi).2)]; exact hc i hi⟩
end Go.Proofs.Yteijncfnifebjaa
