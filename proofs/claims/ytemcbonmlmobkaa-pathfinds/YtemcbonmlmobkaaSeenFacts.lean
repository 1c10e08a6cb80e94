/- What is said of the neighbours of a cell that is inside. -/
import Derived.Test.YtemcbonmlmobkaaNear
namespace Go.Proofs.Ytemcbonmlmobkaa
open Go.RowKit
theorem wrap_small {z : Int} (h : -1000 ≤ z ∧ z ≤ 1000) : wrap64 z = z := by
  unfold wrap64
  omega
theorem meas_inside {m : Mp} {x y : Int} (hf : formed m = true) (h : holds m x y = true) : meas x y = true := by
  have h1 := holds_of h
  obtain ⟨f1, f2, _⟩ := formed_of hf
  unfold meas
  simp only [Bool.and_eq_true, decide_eq_true_eq]
  omega
theorem near_facts {m : Mp} {x y : Int} (hf : formed m = true) (hh : holds m x y = true) : 2 ≤ (near m x y).length ∧ (near m x y).length ≤ 4 ∧
    ∀ i, i < (near m x y).length → dist x y ((near m x y).getD i (0, 0)).1 ((near m x y).getD i (0, 0)).2 = 1 ∧ (formed m && holds m ((near m x y).getD i (0, 0)).1 ((near m x y).getD i (0, 0)).2) = true := by
  have hp := holds_of hh
  obtain ⟨f1, f2, _⟩ := formed_of hf
  have e : nbs x y = [(x, y - 1), (x + 1, y), (x, y + 1), (x - 1, y)] := by
    unfold nbs
    rw [wrap_small (by omega), wrap_small (by omega), wrap_small (by omega), wrap_small (by omega)]
  have en : near m x y = ([(x, y - 1), (x + 1, y), (x, y + 1), (x - 1, y)] : List (Int × Int)).filter (fun c => holds m c.1 c.2) := by rw [near, if_pos hf, e]
  have hmem : ∀ c ∈ near m x y, dist x y c.1 c.2 = 1 ∧ (formed m && holds m c.1 c.2) = true := by
    intro c hc
    rw [en, List.mem_filter] at hc
    obtain ⟨hc, hk⟩ := hc
    have hk' := hk
    have hfar : far x y c.1 c.2 = 1 ∧ apt x c.1 + apt y c.2 = 1 := by
      simp only [List.mem_cons, List.not_mem_nil, or_false] at hc
      rcases hc with rfl | rfl | rfl | rfl <;> (unfold far apt; dsimp only; omega)
    refine ⟨?_, by rw [hf, hk]; rfl⟩
    rw [dist, meas_inside hf hh, meas_inside hf hk]
    exact hfar.2
  refine ⟨?_, ?_, fun i hi => hmem _ ?_⟩
  · rw [en]
    have h1 : holds m (x + 1) y = true ∨ holds m (x - 1) y = true := by
      unfold holds
      simp only [Bool.and_eq_true, decide_eq_true_eq]
      omega
    have h2 : holds m x (y - 1) = true ∨ holds m x (y + 1) = true := by
      unfold holds
      simp only [Bool.and_eq_true, decide_eq_true_eq]
      omega
    simp only [List.filter_cons, List.filter_nil]
    rcases h1 with h1 | h1 <;> rcases h2 with h2 | h2 <;> simp only [h1, h2, if_true] <;> (repeat' split) <;> simp
  · rw [en]
    exact Nat.le_trans (List.length_filter_le _ _) (by simp)
  · simp [List.getD, List.getElem?_eq_getElem hi]
end Go.Proofs.Ytemcbonmlmobkaa
