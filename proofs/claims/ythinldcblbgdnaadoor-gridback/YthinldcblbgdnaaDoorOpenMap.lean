/- An argument that is a map is opened. -/
import Derived.Test.YthinldcblbgdnaaDoorRowKit
namespace Go.Proofs.YthinldcblbgdnaaDoor
open Go.ChangeShapes Go.WideShapes Go.ChangeAt Go.RowKit
theorem ints_nil (w : World) : IntsAt w (.slice none 0 0) [] := ⟨_, 0, rfl, by simp, fun _ => rfl, fun h => absurd rfl h⟩
theorem open_ints_cells {H : Type} {enc : TypeId × Value → H} {W : World} {base : Nat} {sp : Nat → Bool} {held : Bool} {fuel : Nat} {cs : List Value} {y : DataW H × List MemPlace}
    (hf : DataW.trod enc Tryd.prog W base sp held fuel 22 cs = some y) :
    ∃ (p : Option Addr) (cap : Nat) (zs : List Int), cs = [.slice p zs.length cap] ∧ (∀ z ∈ zs, I64 z) ∧ IntsAt W (.slice p zs.length cap) zs := by
  rcases open_ints Tryd.underlying22 Tryd.underlying3 cells3 hf with ⟨hcs, _⟩ | ⟨x, l, c, zs, hcs, _, hl, hm, hz, _, hcell, hwz⟩
  · exact ⟨none, 0, [], by simpa using hcs, by simp, ints_nil W⟩
  · have hzl : l ≤ zs.length := by rw [hz]; split <;> omega
    have hlen : (zs.take l).length = l := by rw [List.length_take]; omega
    refine ⟨some x, c, zs.take l, by rw [hlen]; exact hcs, fun z hz2 => ?_, ⟨some x, c, rfl, by omega, (fun h => by cases h), fun hne => ?_⟩⟩
    · have := bounds_i64 (hwz z (List.mem_of_mem_take hz2))
      unfold I64; omega
    · have hl0 : 0 < l := by
        rcases Nat.eq_zero_or_pos l with h | h
        · subst h; simp at hne
        · exact h
      have hc0 := hcell 0 (by omega)
      obtain ⟨b, off, spot⟩ := x
      have hspot : spot = .none := by simpa [Addr.add] using World.cell?_spot hc0
      subst hspot
      refine ⟨b, off, rfl, fun i hi => ?_⟩
      have hi' : i < l := by omega
      have hc := hcell i (by omega)
      rw [Addr.add_mid] at hc
      rw [hc]
      congr 2
      simp [hi', show i < zs.length by omega]
/-- An argument that is a map. -/
theorem open_map {H : Type} {enc : TypeId × Value → H} {W : World} {base : Nat} {v : Value} {d : DataW H} {p : List MemPlace} (hv : Value.okWide Tryd.prog W .any base 24 v) (h : DataW.Trod enc Tryd.prog W 0 (fun _ => true) true 24 v d p) :
    ∃ m : Mp, MapAt W v m ∧ I64 m.W ∧ I64 m.H ∧ (∀ z ∈ m.ts, I64 z) ∧ (∀ z ∈ m.os, I64 z) := by
  obtain ⟨cs, rfl, hsz⟩ := okWide_struct Tryd.underlying24 hv
  rw [cells24] at hsz
  obtain ⟨fuel, hf⟩ := h
  obtain ⟨xs, n, _, _, _, hlen, hfi⟩ := DataW.trod_struct Tryd.underlying24 hf
  match xs, hlen with
  | [y0, y1, y2, y3], _ =>
    have h0 : DataW.trod enc Tryd.prog W 0 (fun _ => true) true n 3 (((Value.agg cs).cells.toList.drop 0).take (Tryd.prog.cellsOf 3)) = some y0 := hfi 0 _ rfl
    have h1 : DataW.trod enc Tryd.prog W 0 (fun _ => true) true n 3 (((Value.agg cs).cells.toList.drop 1).take (Tryd.prog.cellsOf 3)) = some y1 := hfi 1 _ rfl
    have h2 : DataW.trod enc Tryd.prog W 0 (fun _ => true) true n 22 (((Value.agg cs).cells.toList.drop 2).take (Tryd.prog.cellsOf 22)) = some y2 := hfi 2 _ rfl
    have h3 : DataW.trod enc Tryd.prog W 0 (fun _ => true) true n 22 (((Value.agg cs).cells.toList.drop 3).take (Tryd.prog.cellsOf 22)) = some y3 := hfi 3 _ rfl
    obtain ⟨a, e0, _, w0⟩ := DataW.trod_int Tryd.underlying3 h0
    obtain ⟨b, e1, _, w1⟩ := DataW.trod_int Tryd.underlying3 h1
    obtain ⟨p2, c2, ts, e2, z2, i2⟩ := open_ints_cells h2
    obtain ⟨p3, c3, os, e3, z3, i3⟩ := open_ints_cells h3
    rw [cells3] at e0 e1
    rw [cells22] at e2 e3
    have k0 := take_one e0
    have k1 := take_one e1
    have k2 := take_one e2
    have k3 := take_one e3
    have b0 := bounds_i64 w0
    have b1 := bounds_i64 w1
    simp only [Value.cells, Array.getElem?_toList] at k0 k1 k2 k3
    refine ⟨⟨a, b, ts, os⟩, ⟨p2, c2, p3, c3, ?_, i2, i3⟩, by unfold I64; dsimp only; omega, by unfold I64; dsimp only; omega, z2, z3⟩
    congr 1
    apply Array.ext_getElem?
    intro i
    match i with
    | 0 => simpa using k0
    | 1 => simpa using k1
    | 2 => simpa using k2
    | 3 => simpa using k3
    | i + 4 => rw [Array.getElem?_eq_none (by omega), Array.getElem?_eq_none (by simp)]
end Go.Proofs.YthinldcblbgdnaaDoor
