/- What every law's row of this seat shares: an argument that is a slice of bytes. -/
import Derived.Test.YtpiflgbcbhnmpaaRows
import Derived.Test.YtpiflgbcbhnmpaaBase
import Derived.ProofKit
import Derived.OpenShut
namespace Go.Proofs.Ytpiflgbcbhnmpaa
open Go.ChangeShapes Go.WideShapes Go.ChangeAt Go.RowKit
theorem own : ownKnob Try.prog.godebug = none := by kernel_rfl
theorem laidOut : laidOutB Try.prog = true := by kernel_rfl
theorem open_slice_cells {H : Type} {enc : TypeId × Value → H} {W : World} {base : Nat} {sp : Nat → Bool} {held : Bool} {fuel : Nat} {p : Option Addr} {len cap : Nat} {y : DataW H × List MemPlace}
    (hf : DataW.trod enc Try.prog W base sp held fuel 23 [Value.slice p len cap] = some y) :
    ∃ bs : List Nat, bs.length = len ∧ (∀ x ∈ bs, x < 256) ∧ BytesAt W (.slice p len cap) bs ∧ cap ≤ maxLen := by
  rcases open_ints Try.underlying23 Try.underlying5 (by kernel_rfl) hf with ⟨hcs, _⟩ | ⟨x, l, c, zs, hcs, _, hl, hm, hz, _, hcell, hwz⟩
  · simp at hcs
    obtain ⟨rfl, rfl, rfl⟩ := hcs
    exact ⟨[], rfl, by simp, bytes_nil W, by simp⟩
  · simp at hcs
    obtain ⟨rfl, rfl, rfl⟩ := hcs
    have hzl : len ≤ zs.length := by rw [hz]; split <;> omega
    have hb : ∀ z ∈ zs, 0 ≤ z ∧ z < 256 := fun z hzz => by have := bounds_u8 (hwz z hzz); omega
    refine ⟨(zs.take len).map fun z => z.toNat, by simp; omega, fun y hy => ?_, ⟨some x, cap, ?_, ?_, (fun h => by cases h), fun hne => ?_⟩, hm⟩
    · obtain ⟨z, hz2, rfl⟩ := List.mem_map.1 hy
      have := hb z (List.mem_of_mem_take hz2)
      omega
    · congr 1; simp; omega
    · simp; omega
    · have hl0 : 0 < len := by
        rcases Nat.eq_zero_or_pos len with h | h
        · subst h; simp at hne
        · exact h
      have hc0 := hcell 0 (by omega)
      obtain ⟨b, off, spot⟩ := x
      have hspot : spot = .none := by simpa [Addr.add] using World.cell?_spot hc0
      subst hspot
      refine ⟨b, off, rfl, fun i hi => ?_⟩
      have hi' : i < len := by simp at hi; omega
      have hc := hcell i (by omega)
      rw [Addr.add_mid] at hc
      rw [hc]
      have hz2 := hb (zs.getD i 0) (by rw [show zs.getD i 0 = zs[i]'(by omega) by simp [show i < zs.length by omega]]; exact List.getElem_mem _)
      congr 1
      have e : ((zs.take len).map fun z => z.toNat).getD i 0 = (zs.getD i 0).toNat := by
        simp [hi', show i < zs.length by omega]
      rw [e]
      unfold By
      congr 1
      omega
set_option maxRecDepth 100000 in
/-- An argument that is a slice of bytes. -/
theorem open_slice {H : Type} {enc : TypeId × Value → H} {W : World} {base : Nat} {v : Value} {d : DataW H} {ps : List MemPlace} (hv : Value.okWide Try.prog W .any base 23 v) (h : DataW.Trod enc Try.prog W 0 (fun _ => true) true 23 v d ps) :
    ∃ (p : Option Addr) (M cap : Nat) (bs : List Nat), v = .slice p M cap ∧ M = bs.length ∧ (∀ x ∈ bs, x < 256) ∧ BytesAt W (.slice p M cap) bs ∧ cap ≤ maxLen := by
  obtain ⟨p, len, cap, rfl⟩ := okWide_slice Try.underlying23 hv
  obtain ⟨fuel, hf⟩ := h
  obtain ⟨bs, rfl, hx, hb, hm⟩ := open_slice_cells (y := (d, ps)) (by simpa [Value.cells] using hf)
  exact ⟨p, _, cap, bs, rfl, rfl, hx, hb, hm⟩
end Go.Proofs.Ytpiflgbcbhnmpaa
