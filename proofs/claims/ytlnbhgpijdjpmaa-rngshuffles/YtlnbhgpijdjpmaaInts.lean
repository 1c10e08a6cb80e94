/- Slices of integers that are handed in. -/
import Derived.Test.YtlnbhgpijdjpmaaRowKit
import Derived.Test.YtlnbhgpijdjpmaaSrc
namespace Go.Proofs.Ytlnbhgpijdjpmaa
open Go.ChangeShapes Go.WideShapes Go.ChangeAt Go.RowKit
theorem lt_of_cell {w : World} {p : Addr} {v : Value} (h : w.cell? p = some v) : p.block < w.heap.size := by
  rcases Nat.lt_or_ge p.block w.heap.size with h1 | h1
  · exact h1
  · simp [World.cell?, h1] at h
/-- v is a slice of the integers zs. -/
def IntsAt (k : IntKind) (w : World) (v : Value) (zs : List Int) : Prop :=
  ∃ p cap, v = .slice p zs.length cap ∧ zs.length ≤ cap ∧ (p = none → cap = 0) ∧ (zs ≠ [] → ∃ sb so, p = some ⟨sb, so, none⟩ ∧ ∀ i, i < zs.length → w.cell? ⟨sb, so + i, none⟩ = some (.int k (zs.getD i 0)))
theorem IntsAt.below {k : IntKind} {w w' : World} {v : Value} {zs : List Int} (h : IntsAt k w v zs) (hb : Below w.heap.size w w') : IntsAt k w' v zs := by
  obtain ⟨p, cap, rfl, hc, hz, h⟩ := h
  refine ⟨p, cap, rfl, hc, hz, fun hn => ?_⟩
  obtain ⟨sb, so, rfl, hcell⟩ := h hn
  exact ⟨sb, so, rfl, fun i hi => by rw [hb.cell (p := ⟨sb, so + i, none⟩) (lt_of_cell (hcell i hi))]; exact hcell i hi⟩
theorem ints_nil (k : IntKind) (w : World) : IntsAt k w (.slice none 0 0) [] := ⟨_, 0, rfl, by simp, fun _ => rfl, fun h => absurd rfl h⟩
theorem open_ints_cells {H : Type} {enc : TypeId × Value → H} {W : World} {base : Nat} {sp : Nat → Bool} {held : Bool} {fuel : Nat} {p : Option Addr} {len cap : Nat} {y : DataW H × List MemPlace} {t e : TypeId} {k : IntKind}
    (ht : Try.prog.underlying t = some (.slice e)) (he : Try.prog.underlying e = some (.int k)) (hs : Try.prog.cellsOf e = 1)
    (hf : DataW.trod enc Try.prog W base sp held fuel t [Value.slice p len cap] = some y) :
    ∃ zs : List Int, zs.length = len ∧ (∀ z ∈ zs, (Lit.int k z).wf = true) ∧ IntsAt k W (.slice p len cap) zs ∧ cap ≤ maxLen := by
  rcases open_ints ht he hs hf with ⟨hcs, _⟩ | ⟨x, l, c, zs, hcs, _, hl, hm, hz, _, hcell, hwz⟩
  · simp at hcs
    obtain ⟨rfl, rfl, rfl⟩ := hcs
    exact ⟨[], rfl, by simp, ints_nil k W, by simp⟩
  · simp at hcs
    obtain ⟨rfl, rfl, rfl⟩ := hcs
    have hzl : len ≤ zs.length := by rw [hz]; split <;> omega
    refine ⟨zs.take len, by simp; omega, fun z hz2 => hwz z (List.mem_of_mem_take hz2), ⟨some x, cap, ?_, ?_, (fun h => by cases h), fun hne => ?_⟩, hm⟩
    · congr 1; simp; omega
    · simp; omega
    · have hl0 : 0 < len := by
        rcases Nat.eq_zero_or_pos len with h | h
        · subst h; simp at hne
        · exact h
      have hc0 := hcell 0 (by omega)
      obtain ⟨b, off, spot⟩ := x
      have hspot : spot = .none := by simpa [Addr.add] using World.cell?_spot hc0
      subst hspot
      refine ⟨b, off, rfl, fun i hi => ?_⟩
      have hi' : i < len := by simp at hi; omega
      have hc := hcell i (by omega)
      rw [Addr.add_mid] at hc
      rw [hc]
      congr 2
      simp [hi', show i < zs.length by omega]
set_option maxRecDepth 100000 in
/-- An argument that is a slice of uint64. -/
theorem open_u64s {H : Type} {enc : TypeId × Value → H} {W : World} {base : Nat} {v : Value} {d : DataW H} {ps : List MemPlace} (hv : Value.okWide Try.prog W .any base 31 v) (h : DataW.Trod enc Try.prog W 0 (fun _ => true) true 31 v d ps) :
    ∃ (p : Option Addr) (M cap : Nat) (zs : List Int), v = .slice p M cap ∧ M = zs.length ∧ (∀ z ∈ zs, 0 ≤ z ∧ z < 18446744073709551616) ∧ IntsAt .u64 W (.slice p M cap) zs ∧ cap ≤ maxLen := by
  obtain ⟨p, len, cap, rfl⟩ := okWide_slice Try.underlying31 hv
  obtain ⟨fuel, hf⟩ := h
  obtain ⟨bs, rfl, hx, hb, hm⟩ := open_ints_cells (y := (d, ps)) Try.underlying31 Try.underlying22 (by kernel_rfl) (by simpa [Value.cells] using hf)
  exact ⟨p, _, cap, bs, rfl, rfl, fun z hz => by have := bounds_u64 (hx z hz); omega, hb, hm⟩
set_option maxRecDepth 100000 in
/-- An argument that is a slice of int. -/
theorem open_i64s {H : Type} {enc : TypeId × Value → H} {W : World} {base : Nat} {v : Value} {d : DataW H} {ps : List MemPlace} (hv : Value.okWide Try.prog W .any base 35 v) (h : DataW.Trod enc Try.prog W 0 (fun _ => true) true 35 v d ps) :
    ∃ (p : Option Addr) (M cap : Nat) (zs : List Int), v = .slice p M cap ∧ M = zs.length ∧ (∀ z ∈ zs, -9223372036854775808 ≤ z ∧ z ≤ 9223372036854775807) ∧ IntsAt .i64 W (.slice p M cap) zs ∧ cap ≤ maxLen := by
  obtain ⟨p, len, cap, rfl⟩ := okWide_slice Try.underlying35 hv
  obtain ⟨fuel, hf⟩ := h
  obtain ⟨bs, rfl, hx, hb, hm⟩ := open_ints_cells (y := (d, ps)) Try.underlying35 Try.underlying3 (by kernel_rfl) (by simpa [Value.cells] using hf)
  exact ⟨p, _, cap, bs, rfl, rfl, fun z hz => by have := bounds_i64 (hx z hz); omega, hb, hm⟩
end Go.Proofs.Ytlnbhgpijdjpmaa
