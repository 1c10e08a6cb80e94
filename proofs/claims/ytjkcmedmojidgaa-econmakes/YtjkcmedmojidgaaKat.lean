/- A slice of integers of a kind, as it is handed in. -/
import Derived.Test.YtjkcmedmojidgaaApart
namespace Go.Proofs.Ytjkcmedmojidgaa
open Go.RowKit
/-- v is a slice of the integers zs of the kind k. -/
def KAt (k : IntKind) (w : World) (v : Value) (zs : List Int) : Prop :=
  ∃ p cap, v = .slice p zs.length cap ∧ (zs ≠ [] → ∃ sb so, p = some ⟨sb, so, none⟩ ∧ ∀ i, i < zs.length → w.cell? ⟨sb, so + i, none⟩ = some (.int k (zs.getD i 0)))
theorem KAt.below {k : IntKind} {w w' : World} {v : Value} {zs : List Int} (h : KAt k w v zs) (hb : Below w.heap.size w w') : KAt k w' v zs := by
  obtain ⟨p, cap, rfl, h⟩ := h
  refine ⟨p, cap, rfl, fun hn => ?_⟩
  obtain ⟨sb, so, rfl, hcell⟩ := h hn
  exact ⟨sb, so, rfl, fun i hi => by rw [hb.cell (p := ⟨sb, so + i, none⟩) (lt_of_cell (hcell i hi))]; exact hcell i hi⟩
theorem KAt.pos {k : IntKind} {w : World} {p : Option Addr} {n cap : Nat} {zs : List Int} (h : KAt k w (.slice p n cap) zs) (i : Nat) (hi : i < n) : ∃ sb so, p = some ⟨sb, so, none⟩ ∧ sb < w.heap.size ∧ ∀ i, i < n → w.cell? ⟨sb, so + i, none⟩ = some (.int k (zs.getD i 0)) := by
  obtain ⟨q, c, he, h⟩ := h
  simp at he
  obtain ⟨rfl, rfl, rfl⟩ := he
  obtain ⟨sb, so, rfl, hc⟩ := h (by intro h0; subst h0; simp at hi)
  exact ⟨sb, so, rfl, lt_of_cell (hc i hi), hc⟩
end Go.Proofs.Ytjkcmedmojidgaa
