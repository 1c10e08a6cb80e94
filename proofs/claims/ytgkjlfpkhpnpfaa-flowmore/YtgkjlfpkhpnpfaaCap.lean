/- Rows of cells that are handed in: their capacity, and what is left behind the first. -/
import Derived.Test.YtgkjlfpkhpnpfaaRowKit
import Derived.Test.YtgkjlfpkhpnpfaaWay
namespace Go.Proofs.Ytgkjlfpkhpnpfaa
open Go.RowKit
theorem cells_cap {H : Type} {enc : TypeId × Value → H} {W : World} {base : Nat} {p : Option Addr} {M cap : Nat} {d : DataW H} {ps : List MemPlace} (hv : Value.okWide Try.prog W .any base 25 (.slice p M cap)) (h : DataW.Trod enc Try.prog W 0 (fun _ => true) true 25 (.slice p M cap) d ps) : M ≤ cap := by
  obtain ⟨fuel, hf⟩ := h
  have hf' : DataW.trod enc Try.prog W 0 (fun _ => true) true fuel 25 [Value.slice p M cap] = some (d, ps) := by simpa [Value.cells] using hf
  rcases Go.Deep.open_slice Try.underlying25 hf' with ⟨e, _⟩ | ⟨a, len', cap', m, n, D, Pl, e, _, hlc, hcm, hm, hxe, hx⟩
  · simp at e
    omega
  · simp at e
    obtain ⟨rfl, rfl, rfl⟩ := e
    exact hlc
/-- What is left of a row of cells. -/
theorem CellsAt.drop {w : World} {sb so N cap : Nat} {xs : List Cl} (h : CellsAt w (.slice (some ⟨sb, so, none⟩) N cap) xs) (k c : Nat) : CellsAt w (.slice (some ⟨sb, so + k * 2, none⟩) (N - k) c) (xs.drop k) := by
  obtain ⟨q, c', e, h⟩ := h
  simp only [Value.slice.injEq] at e
  obtain ⟨rfl, rfl, _⟩ := e
  refine ⟨some ⟨sb, so + k * 2, none⟩, c, by rw [List.length_drop], fun hne => ⟨sb, so + k * 2, rfl, fun i hi => ?_⟩⟩
  rw [List.length_drop] at hi
  obtain ⟨sb', so', e, h⟩ := h (by intro h0; rw [h0] at hi; simp at hi)
  simp only [Option.some.injEq, Addr.mk.injEq] at e
  obtain ⟨rfl, rfl, _⟩ := e
  obtain ⟨h1, h2⟩ := h (k + i) (by omega)
  have e1 : (xs.drop k).getD i (0, 0) = xs.getD (k + i) (0, 0) := by simp [List.getD_eq_getElem?_getD, List.getElem?_drop]
  rw [e1]
  exact ⟨by rw [← h1]; congr 2; omega, by rw [← h2]; congr 2; omega⟩
theorem CellsAt.drop_all {w : World} {q : Option Addr} {c : Nat} {xs : List Cl} {k : Nat} (hk : xs.length ≤ k) : CellsAt w (.slice q 0 c) (xs.drop k) := by
  rw [List.drop_eq_nil_of_le hk]
  exact ⟨q, c, rfl, fun h => absurd rfl h⟩
end Go.Proofs.Ytgkjlfpkhpnpfaa
