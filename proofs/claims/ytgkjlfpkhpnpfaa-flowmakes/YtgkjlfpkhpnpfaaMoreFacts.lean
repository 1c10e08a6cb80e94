/- Fields with a goal more, or a blocked cell less. -/
import Derived.Test.YtgkjlfpkhpnpfaaFacts
import Derived.Test.YtgkjlfpkhpnpfaaList
namespace Go.Proofs.Ytgkjlfpkhpnpfaa
open Go.RowKit
theorem far_le {m : Mp} {bl bl' gs gs' : List Cl} {f g : Cl → Option Nat} (h : Field m bl gs f) (h' : Field m bl' gs' g) (hg : ∀ c, c ∈ gs → c ∈ gs') (hb : ∀ c, c ∈ bl' → c ∈ bl) (c : Cl) (h0 : 0 ≤ farV f c) : 0 ≤ farV g c ∧ farV g c ≤ farV f c := by
  unfold farV at h0 ⊢
  cases hc : f c with
  | none => rw [hc] at h0; simp only [numV] at h0; omega
  | some n =>
    obtain ⟨k, hk, hgc⟩ := h.more h' hg hb hc
    rw [hgc]
    simp only [numV]
    omega
theorem rowV_get (m : Mp) (f : Cl → Option Nat) {n i : Nat} (hi : i < n) : (rowV m f n).getD i 0 = farV f ((i : Int) % m.W, (i : Int) / m.W) := by
  unfold rowV
  rw [List.getD_eq_getElem?_getD, List.getElem?_map, List.getElem?_range hi]
  rfl
theorem farV_bound {m : Mp} {bl gs : List Cl} {f : Cl → Option Nat} (h : Field m bl gs f) (c : Cl) : -1 ≤ farV f c ∧ farV f c ≤ 400 := by
  unfold farV
  cases hn : f c with
  | none => simp [numV]
  | some n => have := h.few c n hn; simp only [numV]; omega
/-- What the law asks at one place. -/
theorem more_at {m : Mp} {bl gs gs' : List Cl} {f g h : Cl → Option Nat} (hf : Field m bl gs f) (hg : Field m bl gs' g) (hh : Field m [] gs h) (hs : ∀ c, c ∈ gs' → c ∈ gs) {T i : Nat} (hi : i < T) :
    (0 ≤ (rowV m g T).getD i 0 → 0 ≤ (rowV m f T).getD i 0 ∧ (rowV m f T).getD i 0 ≤ (rowV m g T).getD i 0) ∧ (0 ≤ (rowV m f T).getD i 0 → 0 ≤ (rowV m h T).getD i 0 ∧ (rowV m h T).getD i 0 ≤ (rowV m f T).getD i 0) := by
  rw [rowV_get m f hi, rowV_get m g hi, rowV_get m h hi]
  exact ⟨fun h0 => far_le hg hf hs (fun _ h => h) _ h0, fun h0 => far_le hf hh (fun _ h => h) (fun _ h => by cases h) _ h0⟩
end Go.Proofs.Ytgkjlfpkhpnpfaa
