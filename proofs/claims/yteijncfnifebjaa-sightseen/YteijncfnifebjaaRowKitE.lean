/- Arguments that are lists of entities, and two lists of truths. -/
import Derived.Test.YteijncfnifebjaaRowKit
import Derived.Test.YteijncfnifebjaaEnts
namespace Go.Proofs.Yteijncfnifebjaa
open Go.ChangeShapes Go.WideShapes Go.ChangeAt Go.RowKit
theorem cells60 : Try.prog.cellsOf 60 = 11 := by kernel_rfl
theorem cells30 : Try.prog.cellsOf 30 = 1 := by kernel_rfl
theorem cells42 : Try.prog.cellsOf 42 = 2 := by kernel_rfl
theorem ent_of {H : Type} {enc : TypeId × Value → H} {W : World} (fuel : Nat) (cs : List Value) (x : DataW H × List MemPlace) (h : DataW.trod enc Try.prog W 0 (fun _ => true) true fuel 60 cs = some x) : ∃ e : List Int, (∀ (j : Nat) (u : Value), (encN e)[j]? = some u → cs[j]? = some u) ∧ True := by
  have hcells : ∀ i, i < 11 → ∃ z, cs[i]? = some (.int .i64 z) := by
    obtain ⟨xs, n, _, _, _, hlen, hfi⟩ := DataW.trod_struct Try.underlying60 h
    have int1 : ∀ (off : Nat) y, DataW.trod enc Try.prog W 0 (fun _ => true) true n 3 ((cs.drop off).take (Try.prog.cellsOf 3)) = some y → ∃ z, cs[off]? = some (.int .i64 z) := fun off y h => by
      obtain ⟨z, e1, _, w1⟩ := DataW.trod_int Try.underlying3 h
      rw [cells3] at e1
      exact ⟨z, take_one e1⟩
    have cell2 : ∀ (off : Nat) y, DataW.trod enc Try.prog W 0 (fun _ => true) true n 27 ((cs.drop off).take (Try.prog.cellsOf 27)) = some y → (∃ z, cs[off]? = some (.int .i64 z)) ∧ (∃ z, cs[off + 1]? = some (.int .i64 z)) := fun off y h => by
      obtain ⟨⟨x, e1, _⟩, ⟨y, e2, _⟩⟩ := ints_of_cell h
      rw [cells27] at e1 e2
      rw [List.getElem?_take, if_pos (by omega), List.getElem?_drop] at e1 e2
      exact ⟨⟨x, e1⟩, ⟨y, e2⟩⟩
    match xs, hlen with
    | [y0, y1, y2, y3, y4, y5, y6, y7, y8], _ =>
      have t0 := int1 0 y0 (hfi 0 _ rfl)
      have t1 := int1 1 y1 (hfi 1 _ rfl)
      have t2 := int1 2 y2 (hfi 2 _ rfl)
      have t3 := cell2 3 y3 (hfi 3 _ rfl)
      have t5 := int1 5 y4 (hfi 4 _ rfl)
      have t6 := int1 6 y5 (hfi 5 _ rfl)
      have t7 := cell2 7 y6 (hfi 6 _ rfl)
      have t9 := int1 9 y7 (hfi 7 _ rfl)
      have t10 := int1 10 y8 (hfi 8 _ rfl)
      intro i hi
      match i, hi with
      | 0, _ => exact t0
      | 1, _ => exact t1
      | 2, _ => exact t2
      | 3, _ => exact t3.1
      | 4, _ => exact t3.2
      | 5, _ => exact t5
      | 6, _ => exact t6
      | 7, _ => exact t7.1
      | 8, _ => exact t7.2
      | 9, _ => exact t9
      | 10, _ => exact t10
  have hn : ∀ i, i < 11 → cs[i]? = some (.int .i64 (nE (cs.map intOf) i)) := fun i hi => by
    obtain ⟨z, hz⟩ := hcells i hi
    rw [hz]
    unfold nE
    rw [List.getD_eq_getElem?_getD, List.getElem?_map, hz]
    rfl
  refine ⟨cs.map intOf, fun j u hu => ?_, trivial⟩
  have hj : j < 11 := by have := (List.getElem?_eq_some_iff.1 hu).1; exact this
  rw [hn j hj, ← hu]
  match j, hj with
  | 0, _ => rfl
  | 1, _ => rfl
  | 2, _ => rfl
  | 3, _ => rfl
  | 4, _ => rfl
  | 5, _ => rfl
  | 6, _ => rfl
  | 7, _ => rfl
  | 8, _ => rfl
  | 9, _ => rfl
  | 10, _ => rfl
/-- An argument that is a list of entities. -/
theorem open_ents {H : Type} {enc : TypeId × Value → H} {W : World} {base : Nat} {v : Value} {d : DataW H} {ps : List MemPlace} (hv : Value.okWide Try.prog W .any base 41 v) (h : DataW.Trod enc Try.prog W 0 (fun _ => true) true 41 v d ps) :
    ∃ (p : Option Addr) (M cap : Nat) (os : List (List Int)), v = .slice p M cap ∧ RowAt encN 11 W (.slice p M cap) os ∧ ∀ c ∈ os, True :=
  open_row layN Try.underlying41 cells60 ent_of hv h
/-- An argument that is two lists of truths. -/
theorem open_bools2 {H : Type} {enc : TypeId × Value → H} {W : World} {base : Nat} {v : Value} {d : DataW H} {p : List MemPlace} (hv : Value.okWide Try.prog W .any base 42 v) (h : DataW.Trod enc Try.prog W 0 (fun _ => true) true 42 v d p) :
    ∃ (s t : Value) (xs ys : List Bool), v = .agg #[s, t] ∧ RowAt encB 1 W s xs ∧ RowAt encB 1 W t ys := by
  obtain ⟨cs, rfl, hsz⟩ := okWide_array Try.underlying42 hv
  rw [cells42] at hsz
  obtain ⟨fuel, hf⟩ := h
  obtain ⟨xs, m, _, _, hlen, hn, hel⟩ := DataW.trod_array Try.underlying42 hf
  match xs, hn with
  | [y0, y1], _ =>
    have h0 := hel 0 (by omega)
    have h1 := hel 1 (by omega)
    simp only [cells30] at h0 h1
    obtain ⟨pa, M, ca, xs, e0, r0, _⟩ := open_row_cells (α := Bool) layB Try.underlying30 cells4 bool_of h0
    obtain ⟨pb, N, cb, ys, e1, r1, _⟩ := open_row_cells (α := Bool) layB Try.underlying30 cells4 bool_of h1
    have k0 := take_one e0
    have k1 := take_one e1
    simp only [Value.cells, Array.getElem?_toList] at k0 k1
    refine ⟨_, _, xs, ys, ?_, r0, r1⟩
    congr 1
    apply Array.ext_getElem?
    intro i
    match i with
    | 0 => simpa using k0
    | 1 => simpa using k1
    | i + 2 => rw [Array.getElem?_eq_none (by omega), Array.getElem?_eq_none (by simp)]
end Go.Proofs.Yteijncfnifebjaa
