/- What every law's row of this seat shares; arguments that are slices of bytes, and entities. -/
import Derived.Test.YtdagkeklfhlcnaaRows
import Derived.Test.YtdagkeklfhlcnaaNeverWalk
import Derived.ProofKit
import Derived.OpenShut
namespace Go.Proofs.Ytdagkeklfhlcnaa
open Go.ChangeShapes Go.WideShapes Go.ChangeAt Go.RowKit
theorem own : ownKnob Try.prog.godebug = none := by kernel_rfl
theorem laidOut : laidOutB Try.prog = true := by kernel_rfl
theorem cells5 : Try.prog.cellsOf 5 = 1 := by kernel_rfl
theorem cells3 : Try.prog.cellsOf 3 = 1 := by kernel_rfl
theorem cells30 : Try.prog.cellsOf 30 = 2 := by kernel_rfl
theorem cells32 : Try.prog.cellsOf 32 = 11 := by kernel_rfl
theorem okWide_struct {P : Program} {w : World} {r : Reach} {base : Nat} {t : TypeId} {v : Value} {fs : Array Field} (ht : P.underlying t = some (.struct fs)) (h : Value.okWide P w r base t v) : ∃ cs, v = .agg cs ∧ cs.size = P.cellsOf t := by
  simp only [Value.okWide, ht] at h
  obtain ⟨cs, h1, h2, _⟩ := h
  exact ⟨cs, h1, h2⟩
theorem take_one {l : List Value} {i : Nat} {v : Value} (h : (l.drop i).take 1 = [v]) : l[i]? = some v := by
  have := congrArg (fun z => z[0]?) h
  simpa using this
set_option maxRecDepth 100000 in
/-- An argument that is a slice of bytes. -/
theorem open_bytes {H : Type} {enc : TypeId × Value → H} {W : World} {base : Nat} {v : Value} {d : DataW H} {ps : List MemPlace} (hv : Value.okWide Try.prog W .any base 42 v) (h : DataW.Trod enc Try.prog W 0 (fun _ => true) true 42 v d ps) :
    ∃ (p : Option Addr) (M cap : Nat) (zs : List Nat), v = .slice p M cap ∧ M = zs.length ∧ (∀ z ∈ zs, z < 256) ∧ BytesAt W (.slice p M cap) zs := by
  obtain ⟨p, len, cap, rfl⟩ := okWide_slice Try.underlying42 hv
  obtain ⟨fuel, hf⟩ := h
  have hf' : DataW.trod enc Try.prog W 0 (fun _ => true) true fuel 42 [Value.slice p len cap] = some (d, ps) := by simpa [Value.cells] using hf
  rcases open_ints Try.underlying42 Try.underlying5 cells5 hf' with ⟨hcs, _⟩ | ⟨x, l, c, zs, hcs, _, hl, hm, hz, _, hcell, hwz⟩
  · simp at hcs
    obtain ⟨rfl, rfl, rfl⟩ := hcs
    exact ⟨none, 0, 0, [], rfl, rfl, by simp, none, 0, rfl, fun h => absurd rfl h⟩
  · simp at hcs
    obtain ⟨rfl, rfl, rfl⟩ := hcs
    have hzl : len ≤ zs.length := by rw [hz]; split <;> omega
    have hlen : ((zs.take len).map Int.toNat).length = len := by rw [List.length_map, List.length_take]; omega
    refine ⟨some x, len, cap, (zs.take len).map Int.toNat, rfl, hlen.symm, fun z hz2 => ?_, some x, cap, by rw [hlen], fun hne => ?_⟩
    · obtain ⟨y, hy, rfl⟩ := List.mem_map.1 hz2
      have := bounds_u8 (hwz y (List.mem_of_mem_take hy))
      omega
    · have hl0 : 0 < len := by
        rcases Nat.eq_zero_or_pos len with h | h
        · subst h; simp at hne
        · exact h
      have hc0 := hcell 0 (by omega)
      obtain ⟨b, off, spot⟩ := x
      have hspot : spot = .none := by simpa [Addr.add] using World.cell?_spot hc0
      subst hspot
      refine ⟨b, off, rfl, fun i hi => ?_⟩
      have hi' : i < len := by omega
      have hi2 : i < zs.length := by omega
      have hc := hcell i (by omega)
      rw [Addr.add_mid] at hc
      rw [hc]
      have hb := bounds_u8 (hwz zs[i] (by simp))
      congr 2
      simp [hi', hi2]
      omega
/-- An argument that is an entity. -/
theorem open_ent {H : Type} {enc : TypeId × Value → H} {W : World} {base : Nat} {v : Value} {d : DataW H} {p : List MemPlace} (hv : Value.okWide Try.prog W .any base 32 v) (h : DataW.Trod enc Try.prog W 0 (fun _ => true) true 32 v d p) :
    ∃ e : List Int, e.length = 11 ∧ v = E e ∧ ∀ z ∈ e, I64 z := by
  obtain ⟨cs, rfl, hsz⟩ := okWide_struct Try.underlying32 hv
  rw [cells32] at hsz
  obtain ⟨fuel, hf⟩ := h
  have hcells : ∀ i, i < 11 → ∃ z, cs[i]? = some (.int .i64 z) ∧ I64 z := by
    obtain ⟨xs, n, _, _, _, hlen, hfi⟩ := DataW.trod_struct Try.underlying32 hf
    have int1 : ∀ (off : Nat) y, DataW.trod enc Try.prog W 0 (fun _ => true) true n 3 (((Value.agg cs).cells.toList.drop off).take (Try.prog.cellsOf 3)) = some y → ∃ z, cs[off]? = some (.int .i64 z) ∧ I64 z := fun off y h => by
      obtain ⟨z, e1, _, w1⟩ := DataW.trod_int Try.underlying3 h
      rw [cells3] at e1
      have k1 := take_one e1
      have b1 := bounds_i64 w1
      simp only [Value.cells, Array.getElem?_toList] at k1
      exact ⟨z, k1, by unfold I64; omega⟩
    have cell2 : ∀ (off : Nat) y, DataW.trod enc Try.prog W 0 (fun _ => true) true n 30 (((Value.agg cs).cells.toList.drop off).take (Try.prog.cellsOf 30)) = some y → (∃ z, cs[off]? = some (.int .i64 z) ∧ I64 z) ∧ (∃ z, cs[off + 1]? = some (.int .i64 z) ∧ I64 z) := fun off y h => by
      obtain ⟨y0, y1, m, _, _, h0, h1⟩ := trod_struct2 Try.underlying30 h
      obtain ⟨x, e1, _, w1⟩ := DataW.trod_int Try.underlying3 h0
      obtain ⟨y, e2, _, w2⟩ := DataW.trod_int Try.underlying3 h1
      rw [cells3] at e1 e2
      rw [cells30] at e1 e2
      have k1 := take_one e1
      have k2 := take_one e2
      have b1 := bounds_i64 w1
      have b2 := bounds_i64 w2
      have k1' : (((Value.agg cs).cells.toList.drop off).take 2)[0]? = some (.int .i64 x) := k1
      have k2' : (((Value.agg cs).cells.toList.drop off).take 2)[1]? = some (.int .i64 y) := k2
      clear k1 k2
      rw [List.getElem?_take, if_pos (by omega), List.getElem?_drop] at k1' k2'
      simp only [Value.cells, Array.getElem?_toList, Nat.add_zero] at k1' k2'
      exact ⟨⟨x, k1', by unfold I64; omega⟩, ⟨y, k2', by unfold I64; omega⟩⟩
    match xs, hlen with
    | [y0, y1, y2, y3, y4, y5, y6, y7, y8], _ =>
      have t0 := int1 0 y0 (hfi 0 _ rfl)
      have t1 := int1 1 y1 (hfi 1 _ rfl)
      have t2 := int1 2 y2 (hfi 2 _ rfl)
      have t3 := cell2 3 y3 (hfi 3 _ rfl)
      have t5 := int1 5 y4 (hfi 4 _ rfl)
      have t6 := int1 6 y5 (hfi 5 _ rfl)
      have t7 := cell2 7 y6 (hfi 6 _ rfl)
      have t9 := int1 9 y7 (hfi 7 _ rfl)
      have t10 := int1 10 y8 (hfi 8 _ rfl)
      intro i hi
      match i, hi with
      | 0, _ => exact t0
      | 1, _ => exact t1
      | 2, _ => exact t2
      | 3, _ => exact t3.1
      | 4, _ => exact t3.2
      | 5, _ => exact t5
      | 6, _ => exact t6
      | 7, _ => exact t7.1
      | 8, _ => exact t7.2
      | 9, _ => exact t9
      | 10, _ => exact t10
  refine ⟨cs.toList.map intOf, by simpa using hsz, ?_, fun z hz => ?_⟩
  · unfold E
    congr 1
    apply Array.ext_getElem?
    intro i
    by_cases hi : i < 11
    · obtain ⟨z, hz, _⟩ := hcells i hi
      simp [hz, I, intOf]
    · rw [Array.getElem?_eq_none (by omega), Array.getElem?_eq_none (by simp; omega)]
  · obtain ⟨v, hv, rfl⟩ := List.mem_map.1 hz
    obtain ⟨i, hi, he⟩ := List.getElem_of_mem hv
    obtain ⟨z, hz', hb⟩ := hcells i (by simpa [hsz] using hi)
    have : cs.toList[i]? = some v := by rw [List.getElem?_eq_getElem hi, he]
    rw [Array.getElem?_toList, hz'] at this
    cases this
    exact hb
end Go.Proofs.Ytdagkeklfhlcnaa
