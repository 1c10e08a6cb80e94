/- What every law's row of this seat shares: arguments that are players, and lists of small numbers. -/
import Derived.Test.YtjkcmedmojidgaaRows
import Derived.Test.YtjkcmedmojidgaaKat
import Derived.ProofKit
import Derived.OpenShut
import Derived.Deep.Slices
namespace Go.Proofs.Ytjkcmedmojidgaa
open Go.ChangeShapes Go.WideShapes Go.ChangeAt Go.RowKit
theorem own : ownKnob Try.prog.godebug = none := by kernel_rfl
theorem laidOut : laidOutB Try.prog = true := by kernel_rfl
theorem cells3 : Try.prog.cellsOf 3 = 1 := by kernel_rfl
theorem cells4 : Try.prog.cellsOf 4 = 1 := by kernel_rfl
theorem cells5 : Try.prog.cellsOf 5 = 1 := by kernel_rfl
theorem cells51 : Try.prog.cellsOf 51 = 1 := by kernel_rfl
theorem cells34 : Try.prog.cellsOf 34 = 1 := by kernel_rfl
theorem cells36 : Try.prog.cellsOf 36 = 4 := by kernel_rfl
theorem okWide_struct {P : Program} {w : World} {r : Reach} {base : Nat} {t : TypeId} {v : Value} {fs : Array Field} (ht : P.underlying t = some (.struct fs)) (h : Value.okWide P w r base t v) : ∃ cs, v = .agg cs ∧ cs.size = P.cellsOf t := by
  simp only [Value.okWide, ht] at h
  obtain ⟨cs, h1, h2, _⟩ := h
  exact ⟨cs, h1, h2⟩
theorem take_one {l : List Value} {i : Nat} {v : Value} (h : (l.drop i).take 1 = [v]) : l[i]? = some v := by
  have := congrArg (fun z => z[0]?) h
  simpa using this
theorem open_ints_cells {H : Type} {enc : TypeId × Value → H} {W : World} {base : Nat} {sp : Nat → Bool} {held : Bool} {fuel : Nat} {cs : List Value} {y : DataW H × List MemPlace}
    (hf : DataW.trod enc Try.prog W base sp held fuel 34 cs = some y) :
    ∃ (p : Option Addr) (cap : Nat) (zs : List Int), cs = [.slice p zs.length cap] ∧ (∀ z ∈ zs, I64 z) ∧ IntsAt W (.slice p zs.length cap) zs := by
  rcases open_ints Try.underlying34 Try.underlying3 cells3 hf with ⟨hcs, _⟩ | ⟨x, l, c, zs, hcs, _, hl, hm, hz, _, hcell, hwz⟩
  · exact ⟨none, 0, [], by simpa using hcs, by simp, ints_nil W⟩
  · have hzl : l ≤ zs.length := by rw [hz]; split <;> omega
    have hlen : (zs.take l).length = l := by rw [List.length_take]; omega
    refine ⟨some x, c, zs.take l, by rw [hlen]; exact hcs, fun z hz2 => ?_, ⟨some x, c, rfl, by omega, (fun h => by cases h), fun hne => ?_⟩⟩
    · have := bounds_i64 (hwz z (List.mem_of_mem_take hz2))
      unfold I64; omega
    · have hl0 : 0 < l := by
        rcases Nat.eq_zero_or_pos l with h | h
        · subst h; simp at hne
        · exact h
      have hc0 := hcell 0 (by omega)
      obtain ⟨b, off, spot⟩ := x
      have hspot : spot = .none := by simpa [Addr.add] using World.cell?_spot hc0
      subst hspot
      refine ⟨b, off, rfl, fun i hi => ?_⟩
      have hi' : i < l := by omega
      have hc := hcell i (by omega)
      rw [Addr.add_mid] at hc
      rw [hc]
      congr 2
      simp [hi', show i < zs.length by omega]
/-- An argument that is a player. -/
theorem open_player {H : Type} {enc : TypeId × Value → H} {W : World} {base : Nat} {v : Value} {d : DataW H} {p : List MemPlace} (hv : Value.okWide Try.prog W .any base 36 v) (h : DataW.Trod enc Try.prog W 0 (fun _ => true) true 36 v d p) :
    ∃ (o : Int) (b : Bool) (q : List Int) (l : Int) (s : Option Addr) (M cap : Nat), v = .agg #[.int .i64 o, .bool b, .slice s M cap, .int .i64 l] ∧ M = q.length ∧ IntsAt W (.slice s M cap) q ∧ I64 o ∧ I64 l := by
  obtain ⟨cs, rfl, hsz⟩ := okWide_struct Try.underlying36 hv
  rw [cells36] at hsz
  obtain ⟨fuel, hf⟩ := h
  obtain ⟨xs, n, _, _, _, hlen, hfi⟩ := DataW.trod_struct Try.underlying36 hf
  match xs, hlen with
  | [y0, y1, y2, y3], _ =>
    have h0 : DataW.trod enc Try.prog W 0 (fun _ => true) true n 3 (((Value.agg cs).cells.toList.drop 0).take (Try.prog.cellsOf 3)) = some y0 := hfi 0 _ rfl
    have h1 : DataW.trod enc Try.prog W 0 (fun _ => true) true n 4 (((Value.agg cs).cells.toList.drop 1).take (Try.prog.cellsOf 4)) = some y1 := hfi 1 _ rfl
    have h2 : DataW.trod enc Try.prog W 0 (fun _ => true) true n 34 (((Value.agg cs).cells.toList.drop 2).take (Try.prog.cellsOf 34)) = some y2 := hfi 2 _ rfl
    have h3 : DataW.trod enc Try.prog W 0 (fun _ => true) true n 3 (((Value.agg cs).cells.toList.drop 3).take (Try.prog.cellsOf 3)) = some y3 := hfi 3 _ rfl
    obtain ⟨a, e0, _, w0⟩ := DataW.trod_int Try.underlying3 h0
    obtain ⟨b, e1, _⟩ := DataW.trod_bool Try.underlying4 h1
    obtain ⟨p2, c2, q, e2, z2, i2⟩ := open_ints_cells h2
    obtain ⟨l, e3, _, w3⟩ := DataW.trod_int Try.underlying3 h3
    rw [cells3] at e0 e3
    rw [cells4] at e1
    rw [cells34] at e2
    have k0 := take_one e0
    have k1 := take_one e1
    have k2 := take_one e2
    have k3 := take_one e3
    have b0 := bounds_i64 w0
    have b3 := bounds_i64 w3
    simp only [Value.cells, Array.getElem?_toList] at k0 k1 k2 k3
    refine ⟨a, b, q, l, p2, q.length, c2, ?_, rfl, i2, by unfold I64; omega, by unfold I64; omega⟩
    congr 1
    apply Array.ext_getElem?
    intro i
    match i with
    | 0 => simpa using k0
    | 1 => simpa using k1
    | 2 => simpa using k2
    | 3 => simpa using k3
    | i + 4 => rw [Array.getElem?_eq_none (by omega), Array.getElem?_eq_none (by simp)]
/-- An argument that is a list of u8s. -/
theorem open_u8s {H : Type} {enc : TypeId × Value → H} {W : World} {base : Nat} {v : Value} {d : DataW H} {ps : List MemPlace} (hv : Value.okWide Try.prog W .any base 46 v) (h : DataW.Trod enc Try.prog W 0 (fun _ => true) true 46 v d ps) :
    ∃ (p : Option Addr) (M cap : Nat) (zs : List Int), v = .slice p M cap ∧ M = zs.length ∧ (∀ i, 0 ≤ zs.getD i 0 ∧ zs.getD i 0 ≤ 255) ∧ KAt .u8 W (.slice p M cap) zs := by
  obtain ⟨p, len, cap, rfl⟩ := okWide_slice Try.underlying46 hv
  obtain ⟨fuel, hf⟩ := h
  have hf' : DataW.trod enc Try.prog W 0 (fun _ => true) true fuel 46 [Value.slice p len cap] = some (d, ps) := by simpa [Value.cells] using hf
  rcases open_ints Try.underlying46 Try.underlying5 cells5 hf' with ⟨hcs, _⟩ | ⟨x, l, c, zs, hcs, _, hl, hm, hz, _, hcell, hwz⟩
  · simp at hcs
    obtain ⟨rfl, rfl, rfl⟩ := hcs
    exact ⟨none, 0, 0, [], rfl, rfl, by simp, none, 0, rfl, fun h => absurd rfl h⟩
  · simp at hcs
    obtain ⟨rfl, rfl, rfl⟩ := hcs
    have hzl : len ≤ zs.length := by rw [hz]; split <;> omega
    have hlen : (zs.take len).length = len := by rw [List.length_take]; omega
    refine ⟨some x, len, cap, zs.take len, rfl, hlen.symm, fun i => ?_, some x, cap, by rw [hlen], fun hne => ?_⟩
    · rw [List.getD]
      by_cases hi : i < (zs.take len).length
      · rw [List.getElem?_eq_getElem hi]
        have := bounds_u8 (hwz _ (List.mem_of_mem_take (List.getElem_mem hi)))
        simpa using this
      · rw [List.getElem?_eq_none (by omega)]; simp
    · have hl0 : 0 < len := by
        rcases Nat.eq_zero_or_pos len with h | h
        · subst h; simp at hne
        · exact h
      have hc0 := hcell 0 (by omega)
      obtain ⟨b, off, spot⟩ := x
      have hspot : spot = .none := by simpa [Addr.add] using World.cell?_spot hc0
      subst hspot
      refine ⟨b, off, rfl, fun i hi => ?_⟩
      have hi' : i < len := by omega
      have hc := hcell i (by omega)
      rw [Addr.add_mid] at hc
      rw [hc]
      congr 2
      simp [hi', show i < zs.length by omega]
/-- An argument that is a list of i16s. -/
theorem open_i16s {H : Type} {enc : TypeId × Value → H} {W : World} {base : Nat} {v : Value} {d : DataW H} {ps : List MemPlace} (hv : Value.okWide Try.prog W .any base 50 v) (h : DataW.Trod enc Try.prog W 0 (fun _ => true) true 50 v d ps) :
    ∃ (p : Option Addr) (M cap : Nat) (zs : List Int), v = .slice p M cap ∧ M = zs.length ∧ (∀ i, -32768 ≤ zs.getD i 0 ∧ zs.getD i 0 ≤ 32767) ∧ KAt .i16 W (.slice p M cap) zs := by
  obtain ⟨p, len, cap, rfl⟩ := okWide_slice Try.underlying50 hv
  obtain ⟨fuel, hf⟩ := h
  have hf' : DataW.trod enc Try.prog W 0 (fun _ => true) true fuel 50 [Value.slice p len cap] = some (d, ps) := by simpa [Value.cells] using hf
  rcases open_ints Try.underlying50 Try.underlying51 cells51 hf' with ⟨hcs, _⟩ | ⟨x, l, c, zs, hcs, _, hl, hm, hz, _, hcell, hwz⟩
  · simp at hcs
    obtain ⟨rfl, rfl, rfl⟩ := hcs
    exact ⟨none, 0, 0, [], rfl, rfl, by simp, none, 0, rfl, fun h => absurd rfl h⟩
  · simp at hcs
    obtain ⟨rfl, rfl, rfl⟩ := hcs
    have hzl : len ≤ zs.length := by rw [hz]; split <;> omega
    have hlen : (zs.take len).length = len := by rw [List.length_take]; omega
    refine ⟨some x, len, cap, zs.take len, rfl, hlen.symm, fun i => ?_, some x, cap, by rw [hlen], fun hne => ?_⟩
    · rw [List.getD]
      by_cases hi : i < (zs.take len).length
      · rw [List.getElem?_eq_getElem hi]
        have := bounds_i16 (hwz _ (List.mem_of_mem_take (List.getElem_mem hi)))
        simpa using this
      · rw [List.getElem?_eq_none (by omega)]; simp
    · have hl0 : 0 < len := by
        rcases Nat.eq_zero_or_pos len with h | h
        · subst h; simp at hne
        · exact h
      have hc0 := hcell 0 (by omega)
      obtain ⟨b, off, spot⟩ := x
      have hspot : spot = .none := by simpa [Addr.add] using World.cell?_spot hc0
      subst hspot
      refine ⟨b, off, rfl, fun i hi => ?_⟩
      have hi' : i < len := by omega
      have hc := hcell i (by omega)
      rw [Addr.add_mid] at hc
      rw [hc]
      congr 2
      simp [hi', show i < zs.length by omega]
end Go.Proofs.Ytjkcmedmojidgaa
