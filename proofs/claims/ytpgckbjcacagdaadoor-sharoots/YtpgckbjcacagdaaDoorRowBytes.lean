/- An argument that is a slice of bytes, and one that is a slice of such slices. -/
import Derived.Test.YtpgckbjcacagdaaDoorRowKit
import Derived.Test.YtpgckbjcacagdaaDoorSame
namespace Go.Proofs.YtpgckbjcacagdaaDoor
open Go.ChangeShapes Go.WideShapes Go.ChangeAt Go.RowKit

theorem open_slice_cells {H : Type} {enc : TypeId × Value → H} {W : World} {base : Nat} {sp : Nat → Bool} {held : Bool} {fuel : Nat} {p : Option Addr} {len cap : Nat} {y : DataW H × List MemPlace}
    (hf : DataW.trod enc Tryd.prog W base sp held fuel 29 [Value.slice p len cap] = some y) :
    ∃ bs : List Byte, bs.length = len ∧ BytesAt W (.slice p len cap) bs ∧ cap ≤ maxLen := by
  rcases open_ints Tryd.underlying29 Tryd.underlying5 (by kernel_rfl) hf with ⟨hcs, _⟩ | ⟨x, l, c, zs, hcs, _, hl, hm, hz, _, hcell, hwz⟩
  · simp at hcs
    obtain ⟨rfl, rfl, rfl⟩ := hcs
    exact ⟨[], rfl, ⟨none, 0, rfl, by simp, fun _ => rfl, fun h => absurd rfl h⟩, by simp⟩
  · simp at hcs
    obtain ⟨rfl, rfl, rfl⟩ := hcs
    have hzl : len ≤ zs.length := by rw [hz]; split <;> omega
    refine ⟨(zs.take len).map fun z => BitVec.ofInt 8 z, by simp; omega, ⟨some x, cap, ?_, ?_, (fun h => by cases h), fun hne => ?_⟩, hm⟩
    · congr 1; simp; omega
    · simp; omega
    · have hl0 : 0 < len := by
        rcases Nat.eq_zero_or_pos len with h | h
        · subst h; simp at hne
        · exact h
      have hc0 := hcell 0 (by omega)
      obtain ⟨b, off, spot⟩ := x
      have hspot : spot = none := by simpa [Addr.add] using World.cell?_spot hc0
      subst hspot
      refine ⟨b, off, rfl, fun i hi => ?_⟩
      have hi' : i < len := by simp at hi; omega
      have hc := hcell i (by omega)
      rw [Addr.add_mid] at hc
      rw [hc]
      have hz2 := bounds_u8 (hwz (zs.getD i 0) (by rw [show zs.getD i 0 = zs[i]'(by omega) by simp [show i < zs.length by omega]]; exact List.getElem_mem _))
      congr 1
      have e : ((zs.take len).map fun z => BitVec.ofInt 8 z).getD i 0 = BitVec.ofInt 8 (zs.getD i 0) := by
        simp [hi', show i < zs.length by omega]
      rw [e]
      unfold B8
      congr 1
      rw [BitVec.toNat_ofInt]; omega
/-- An argument that is a slice of bytes. -/
theorem open_slice {H : Type} {enc : TypeId × Value → H} {W : World} {base : Nat} {v : Value} {d : DataW H} {ps : List MemPlace} (hv : Value.okWide Tryd.prog W .any base 29 v) (h : DataW.Trod enc Tryd.prog W 0 (fun _ => true) true 29 v d ps) :
    ∃ (p : Option Addr) (cap : Nat) (bs : List Byte), v = .slice p bs.length cap ∧ BytesAt W (.slice p bs.length cap) bs ∧ cap ≤ maxLen := by
  obtain ⟨p, len, cap, rfl⟩ := okWide_slice Tryd.underlying29 hv
  obtain ⟨fuel, hf⟩ := h
  obtain ⟨bs, rfl, hb, hm⟩ := open_slice_cells (y := (d, ps)) (by simpa [Value.cells] using hf)
  exact ⟨p, cap, bs, rfl, hb, hm⟩
end Go.Proofs.YtpgckbjcacagdaaDoor
