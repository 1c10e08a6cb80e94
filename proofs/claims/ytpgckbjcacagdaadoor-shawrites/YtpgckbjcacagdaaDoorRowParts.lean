/- An argument that is a slice of slices of bytes. -/
import Derived.Test.YtpgckbjcacagdaaDoorRowBytes
import Derived.Test.YtpgckbjcacagdaaDoorParts
import Derived.Deep.Slices
namespace Go.Proofs.YtpgckbjcacagdaaDoor
open Go.ChangeShapes Go.WideShapes Go.ChangeAt Go.RowKit

theorem cells29 : Tryd.prog.cellsOf 29 = 1 := by kernel_rfl
theorem open_cell29 {H : Type} {enc : TypeId × Value → H} {W : World} {base : Nat} {sp : Nat → Bool} {held : Bool} {fuel : Nat} {v : Value} {y : DataW H × List MemPlace}
    (hf : DataW.trod enc Tryd.prog W base sp held fuel 29 [v] = some y) : ∃ bs : List Byte, BytesAt W v bs ∧ bs.length ≤ maxLen := by
  have key : ∃ p len cap, v = .slice p len cap := by
    rcases open_ints Tryd.underlying29 Tryd.underlying5 (by kernel_rfl) hf with ⟨hcs, _⟩ | ⟨x, l, c, zs, hcs, _⟩
    · exact ⟨none, 0, 0, by simpa using hcs⟩
    · exact ⟨some x, l, c, by simpa using hcs⟩
  obtain ⟨p, len, cap, rfl⟩ := key
  obtain ⟨bs, rfl, hb, hm⟩ := open_slice_cells hf
  refine ⟨bs, hb, ?_⟩
  obtain ⟨_, c2, he, hc, _⟩ := hb
  injection he with _ _ he3
  subst he3
  omega
/-- An argument that is a slice of slices of bytes. -/
theorem open_parts {H : Type} {enc : TypeId × Value → H} {W : World} {base : Nat} {v : Value} {d : DataW H} {ps : List MemPlace} (hv : Value.okWide Tryd.prog W .any base 22 v) (h : DataW.Trod enc Tryd.prog W 0 (fun _ => true) true 22 v d ps) :
    ∃ parts : List (List Byte), PartsB W v parts ∧ parts.length ≤ 9223372036854775807 ∧ ∀ i, i < parts.length → (parts.getD i []).length ≤ 9223372036854775807 := by
  obtain ⟨p, len, cap, rfl⟩ := okWide_slice Tryd.underlying22 hv
  obtain ⟨fuel, hf⟩ := h
  have hf' : DataW.trod enc Tryd.prog W 0 (fun _ => true) true fuel 22 [Value.slice p len cap] = some (d, ps) := by simpa [Value.cells] using hf
  rcases Go.Deep.open_slice1 Tryd.underlying22 cells29 hf' with ⟨hcs, _⟩ | ⟨a, l, c, m, n, V, D, Pl, hcs, _, hl, hm, hmm, _, hx⟩
  · simp at hcs
    obtain ⟨rfl, rfl, rfl⟩ := hcs
    exact ⟨[], ⟨none, 0, [], rfl, fun i hi => by simp at hi, fun h => absurd rfl h⟩, by simp, fun i hi => by simp at hi⟩
  · simp at hcs
    obtain ⟨rfl, rfl, rfl⟩ := hcs
    simp only [if_true] at hmm
    subst hmm
    obtain ⟨B, hB⟩ := Go.Deep.choose_lt (α := List Byte) (n := len) (p := fun i bs => BytesAt W (V i) bs ∧ bs.length ≤ maxLen) (fun i hi => open_cell29 (hx i (by omega)).2)
    have hml : maxLen ≤ 9223372036854775807 := by unfold maxLen; omega
    have hlen : ((List.range len).map B).length = len := by simp
    have hgB : ∀ i, i < len → ((List.range len).map B).getD i [] = B i := fun i hi => by simp [hi]
    have hgV : ∀ i, i < len → ((List.range len).map V).getD i undef = V i := fun i hi => by simp [hi]
    refine ⟨(List.range len).map B, ⟨some a, _, (List.range len).map V, by rw [hlen], fun i hi => ?_, fun hne => ?_⟩, by omega, fun i hi => ?_⟩
    · rw [hlen] at hi
      rw [hgB i hi, hgV i hi]; exact (hB i hi).1
    · have hl0 : 0 < len := by
        rcases Nat.eq_zero_or_pos len with h | h
        · subst h; simp at hne
        · exact h
      obtain ⟨b, off, spot⟩ := a
      have hc0 := (hx 0 (by omega)).1
      have hspot : spot = none := by simpa [Addr.add] using World.cell?_spot hc0
      subst hspot
      refine ⟨b, off, rfl, fun i hi => ?_⟩
      rw [hlen] at hi
      rw [hgV i hi]
      have hc := (hx i (by omega)).1
      rw [Addr.add_mid] at hc
      exact hc
    · rw [hlen] at hi
      rw [hgB i hi]
      have := (hB i hi).2
      omega
end Go.Proofs.YtpgckbjcacagdaaDoor
