/- What a field says of the next cell. -/
import Derived.Test.YtgkjlfpkhpnpfaaNext
import Derived.Test.YtgkjlfpkhpnpfaaAwake
import Derived.Test.YtgkjlfpkhpnpfaaIn
import Derived.Test.YtgkjlfpkhpnpfaaRefD
namespace Go.Proofs.Ytgkjlfpkhpnpfaa
open Go.RowKit
theorem dist_next {m : Mp} (hf : formed m = true) {c x : Cl} (hc : inn m c = true) (h : x ∈ nr m c) : dist c.1 c.2 x.1 x.2 = 1 := by
  obtain ⟨f1, f2, -⟩ := formed_of hf
  have p1 := holds_of hc
  have p2 := holds_of (nr_in hf h)
  rw [nr_iff hf hc] at h
  have m1 : meas c.1 c.2 = true := by unfold meas; simp; omega
  have m2 : meas x.1 x.2 = true := by unfold meas; simp; omega
  unfold dist
  rw [m1, m2]
  obtain ⟨-, h⟩ := h
  rcases c with ⟨c1, c2⟩
  rcases x with ⟨x1, x2⟩
  simp only [Prod.mk.injEq] at h
  simp only [Bool.and_self, if_true]
  unfold apt
  omega
theorem nextV_zero {m : Mp} {bl gs : List Cl} {f : Cl → Option Nat} {c : Cl} (h : numV (f c) ≤ 0) : nextV m bl gs f c = none := by
  unfold nextV
  cases hc : f c with
  | none => rfl
  | some n =>
    rw [hc] at h
    simp only [numV] at h
    obtain rfl : n = 0 := by omega
    rfl
/-- What follows one step. -/
theorem step_facts {m : Mp} {bl gs : List Cl} {f : Cl → Option Nat} (hf : formed m = true) (h : Field m bl gs f) {c : Cl} (hc : 0 < numV (f c)) : ∃ x, nextV m bl gs f c = some x ∧ dist c.1 c.2 x.1 x.2 = 1 ∧ numV (f x) = numV (f c) - 1 := by
  cases hn : f c with
  | none => rw [hn] at hc; simp only [numV] at hc; omega
  | some n =>
    rw [hn] at hc
    simp only [numV] at hc
    obtain ⟨d, rfl⟩ : ∃ d, n = d + 1 := ⟨n - 1, by omega⟩
    obtain ⟨x, h1, h2, -, h4⟩ := h.next hf hn
    exact ⟨x, h1, dist_next hf (h.ins c _ hn) h2, by rw [h4]; simp only [numV]; omega⟩
theorem makeE_zero {m : Mp} {gs : List Cl} (h : makeE m gs = 0) : formed m = true ∧ ∀ c ∈ gs, inn m c = true := by
  unfold makeE at h
  by_cases h1 : formed m = true
  · rw [if_pos h1] at h
    by_cases h2 : gs.all (inn m) = true
    · exact ⟨h1, List.all_eq_true.1 h2⟩
    · rw [if_neg h2] at h; cases h
  · rw [if_neg h1] at h; cases h
theorem fewG_of {M N K J : Nat} (h : fewG M N K J = true) : K ≤ 200 ∧ J ≤ 100 := by
  unfold fewG at h
  simp only [Bool.and_eq_true, decide_eq_true_eq] at h
  omega
end Go.Proofs.Ytgkjlfpkhpnpfaa
