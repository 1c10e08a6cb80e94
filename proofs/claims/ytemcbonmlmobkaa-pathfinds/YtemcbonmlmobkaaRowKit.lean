/- What every law's row of this seat shares: arguments that are maps, lists of cells, and what is asked. -/
import Derived.Test.YtemcbonmlmobkaaRows
import Derived.Test.YtemcbonmlmobkaaOwnC
import Derived.ProofKit
import Derived.OpenShut
import Derived.Deep.Slices
namespace Go.Proofs.Ytemcbonmlmobkaa
open Go.ChangeShapes Go.WideShapes Go.ChangeAt Go.RowKit
theorem own : ownKnob Try.prog.godebug = none := by kernel_rfl
theorem laidOut : laidOutB Try.prog = true := by kernel_rfl
theorem cells3 : Try.prog.cellsOf 3 = 1 := by kernel_rfl
theorem cells22 : Try.prog.cellsOf 22 = 1 := by kernel_rfl
theorem cells24 : Try.prog.cellsOf 24 = 4 := by kernel_rfl
theorem cells27 : Try.prog.cellsOf 27 = 2 := by kernel_rfl
theorem cells28 : Try.prog.cellsOf 28 = 4 := by kernel_rfl
theorem cells30 : Try.prog.cellsOf 30 = 7 := by kernel_rfl
theorem okWide_struct {P : Program} {w : World} {r : Reach} {base : Nat} {t : TypeId} {v : Value} {fs : Array Field} (ht : P.underlying t = some (.struct fs)) (h : Value.okWide P w r base t v) : ∃ cs, v = .agg cs ∧ cs.size = P.cellsOf t := by
  simp only [Value.okWide, ht] at h
  obtain ⟨cs, h1, h2, _⟩ := h
  exact ⟨cs, h1, h2⟩
theorem okWide_array {P : Program} {w : World} {r : Reach} {base : Nat} {t : TypeId} {v : Value} {n : Nat} {e : TypeId} (ht : P.underlying t = some (.array n e)) (h : Value.okWide P w r base t v) : ∃ cs, v = .agg cs ∧ cs.size = P.cellsOf t := by
  simp only [Value.okWide, ht] at h
  obtain ⟨cs, h1, h2, _⟩ := h
  exact ⟨cs, h1, h2⟩
theorem take_one {l : List Value} {i : Nat} {v : Value} (h : (l.drop i).take 1 = [v]) : l[i]? = some v := by
  have := congrArg (fun z => z[0]?) h
  simpa using this
theorem ints_nil (w : World) : IntsAt w (.slice none 0 0) [] := ⟨_, 0, rfl, by simp, fun _ => rfl, fun h => absurd rfl h⟩
theorem open_ints_cells {H : Type} {enc : TypeId × Value → H} {W : World} {base : Nat} {sp : Nat → Bool} {held : Bool} {fuel : Nat} {cs : List Value} {y : DataW H × List MemPlace}
    (hf : DataW.trod enc Try.prog W base sp held fuel 22 cs = some y) :
    ∃ (p : Option Addr) (cap : Nat) (zs : List Int), cs = [.slice p zs.length cap] ∧ (∀ z ∈ zs, I64 z) ∧ IntsAt W (.slice p zs.length cap) zs := by
  rcases open_ints Try.underlying22 Try.underlying3 cells3 hf with ⟨hcs, _⟩ | ⟨x, l, c, zs, hcs, _, hl, hm, hz, _, hcell, hwz⟩
  · exact ⟨none, 0, [], by simpa using hcs, by simp, ints_nil W⟩
  · have hzl : l ≤ zs.length := by rw [hz]; split <;> omega
    have hlen : (zs.take l).length = l := by rw [List.length_take]; omega
    refine ⟨some x, c, zs.take l, by rw [hlen]; exact hcs, fun z hz2 => ?_, ⟨some x, c, rfl, by omega, (fun h => by cases h), fun hne => ?_⟩⟩
    · have := bounds_i64 (hwz z (List.mem_of_mem_take hz2))
      unfold I64; omega
    · have hl0 : 0 < l := by
        rcases Nat.eq_zero_or_pos l with h | h
        · subst h; simp at hne
        · exact h
      have hc0 := hcell 0 (by omega)
      obtain ⟨b, off, spot⟩ := x
      have hspot : spot = .none := by simpa [Addr.add] using World.cell?_spot hc0
      subst hspot
      refine ⟨b, off, rfl, fun i hi => ?_⟩
      have hi' : i < l := by omega
      have hc := hcell i (by omega)
      rw [Addr.add_mid] at hc
      rw [hc]
      congr 2
      simp [hi', show i < zs.length by omega]
/-- An argument that is a map. -/
theorem open_map {H : Type} {enc : TypeId × Value → H} {W : World} {base : Nat} {v : Value} {d : DataW H} {p : List MemPlace} (hv : Value.okWide Try.prog W .any base 24 v) (h : DataW.Trod enc Try.prog W 0 (fun _ => true) true 24 v d p) :
    ∃ m : Mp, MapAt W v m ∧ I64 m.W ∧ I64 m.H ∧ (∀ z ∈ m.ts, I64 z) ∧ (∀ z ∈ m.os, I64 z) := by
  obtain ⟨cs, rfl, hsz⟩ := okWide_struct Try.underlying24 hv
  rw [cells24] at hsz
  obtain ⟨fuel, hf⟩ := h
  obtain ⟨xs, n, _, _, _, hlen, hfi⟩ := DataW.trod_struct Try.underlying24 hf
  match xs, hlen with
  | [y0, y1, y2, y3], _ =>
    have h0 : DataW.trod enc Try.prog W 0 (fun _ => true) true n 3 (((Value.agg cs).cells.toList.drop 0).take (Try.prog.cellsOf 3)) = some y0 := hfi 0 _ rfl
    have h1 : DataW.trod enc Try.prog W 0 (fun _ => true) true n 3 (((Value.agg cs).cells.toList.drop 1).take (Try.prog.cellsOf 3)) = some y1 := hfi 1 _ rfl
    have h2 : DataW.trod enc Try.prog W 0 (fun _ => true) true n 22 (((Value.agg cs).cells.toList.drop 2).take (Try.prog.cellsOf 22)) = some y2 := hfi 2 _ rfl
    have h3 : DataW.trod enc Try.prog W 0 (fun _ => true) true n 22 (((Value.agg cs).cells.toList.drop 3).take (Try.prog.cellsOf 22)) = some y3 := hfi 3 _ rfl
    obtain ⟨a, e0, _, w0⟩ := DataW.trod_int Try.underlying3 h0
    obtain ⟨b, e1, _, w1⟩ := DataW.trod_int Try.underlying3 h1
    obtain ⟨p2, c2, ts, e2, z2, i2⟩ := open_ints_cells h2
    obtain ⟨p3, c3, os, e3, z3, i3⟩ := open_ints_cells h3
    rw [cells3] at e0 e1
    rw [cells22] at e2 e3
    have k0 := take_one e0
    have k1 := take_one e1
    have k2 := take_one e2
    have k3 := take_one e3
    have b0 := bounds_i64 w0
    have b1 := bounds_i64 w1
    simp only [Value.cells, Array.getElem?_toList] at k0 k1 k2 k3
    refine ⟨⟨a, b, ts, os⟩, ⟨p2, c2, p3, c3, ?_, i2, i3⟩, by unfold I64; dsimp only; omega, by unfold I64; dsimp only; omega, z2, z3⟩
    congr 1
    apply Array.ext_getElem?
    intro i
    match i with
    | 0 => simpa using k0
    | 1 => simpa using k1
    | 2 => simpa using k2
    | 3 => simpa using k3
    | i + 4 => rw [Array.getElem?_eq_none (by omega), Array.getElem?_eq_none (by simp)]
section
variable {H : Type} {enc : TypeId × Value → H} {W : World} {fuel : Nat} {cs : List Value} {x : DataW H × List MemPlace}
theorem ints_of_cell (h : DataW.trod enc Try.prog W 0 (fun _ => true) true fuel 27 cs = some x) : (∃ z, cs[0]? = some (.int .i64 z) ∧ I64 z) ∧ ∃ z, cs[1]? = some (.int .i64 z) ∧ I64 z := by
  obtain ⟨y0, y1, m, _, _, h0, h1⟩ := trod_struct2 Try.underlying27 h
  obtain ⟨x, e1, _, w1⟩ := DataW.trod_int Try.underlying3 h0
  obtain ⟨y, e2, _, w2⟩ := DataW.trod_int Try.underlying3 h1
  rw [cells3] at e1 e2
  have b1 := bounds_i64 w1
  have b2 := bounds_i64 w2
  exact ⟨⟨x, take_one e1, by unfold I64; omega⟩, ⟨y, take_one e2, by unfold I64; omega⟩⟩
theorem ints_of_ends (h : DataW.trod enc Try.prog W 0 (fun _ => true) true fuel 28 cs = some x) : ∀ i, i < 4 → ∃ z, cs[i]? = some (.int .i64 z) ∧ I64 z := by
  obtain ⟨xs, m, _, _, hlen, hn, hel⟩ := DataW.trod_array Try.underlying28 h
  match xs, hn with
  | [y0, y1], _ =>
    have h0 := hel 0 (by omega)
    have h1 := hel 1 (by omega)
    simp only [cells27] at h0 h1
    obtain ⟨⟨a, ha, wa⟩, ⟨b, hb, wb⟩⟩ := ints_of_cell h0
    obtain ⟨⟨c, hc, wc⟩, ⟨d, hd, wd⟩⟩ := ints_of_cell h1
    rw [List.getElem?_take, if_pos (by omega), List.getElem?_drop] at ha hb hc hd
    intro i hi
    match i, hi with
    | 0, _ => exact ⟨a, by simpa using ha, wa⟩
    | 1, _ => exact ⟨b, by simpa using hb, wb⟩
    | 2, _ => exact ⟨c, by simpa using hc, wc⟩
    | 3, _ => exact ⟨d, by simpa using hd, wd⟩
theorem ints_of_asked (h : DataW.trod enc Try.prog W 0 (fun _ => true) true fuel 30 cs = some x) : ∀ i, i < 7 → ∃ z, cs[i]? = some (.int .i64 z) ∧ I64 z := by
  obtain ⟨xs, n, _, _, _, hlen, hfi⟩ := DataW.trod_struct Try.underlying30 h
  match xs, hlen with
  | [y0, y1, y2], _ =>
    have t0 : DataW.trod enc Try.prog W 0 (fun _ => true) true n 28 ((cs.drop 0).take (Try.prog.cellsOf 28)) = some y0 := hfi 0 _ rfl
    have t1 : DataW.trod enc Try.prog W 0 (fun _ => true) true n 3 ((cs.drop 4).take (Try.prog.cellsOf 3)) = some y1 := hfi 1 _ rfl
    have t2 : DataW.trod enc Try.prog W 0 (fun _ => true) true n 27 ((cs.drop 5).take (Try.prog.cellsOf 27)) = some y2 := hfi 2 _ rfl
    have k0 := ints_of_ends t0
    obtain ⟨b, e1, _, w1⟩ := DataW.trod_int Try.underlying3 t1
    rw [cells3] at e1
    have k1 := take_one e1
    have b1 := bounds_i64 w1
    obtain ⟨⟨c, hc, wc⟩, ⟨d, hd, wd⟩⟩ := ints_of_cell t2
    rw [cells27, List.getElem?_take, if_pos (by omega), List.getElem?_drop] at hc hd
    intro i hi
    have k0' : ∀ i, i < 4 → ∃ z, cs[i]? = some (.int .i64 z) ∧ I64 z := fun i hi => by
      obtain ⟨z, hz, wz⟩ := k0 i hi
      rw [cells28, List.getElem?_take, if_pos hi, List.getElem?_drop, Nat.zero_add] at hz
      exact ⟨z, hz, wz⟩
    match i, hi with
    | 0, _ => exact k0' 0 (by omega)
    | 1, _ => exact k0' 1 (by omega)
    | 2, _ => exact k0' 2 (by omega)
    | 3, _ => exact k0' 3 (by omega)
    | 4, _ => exact ⟨b, k1, by unfold I64; omega⟩
    | 5, _ => exact ⟨c, by simpa using hc, wc⟩
    | 6, _ => exact ⟨d, by simpa using hd, wd⟩
end
/-- An argument that is a pair of cells. -/
theorem open_ends {H : Type} {enc : TypeId × Value → H} {W : World} {base : Nat} {v : Value} {d : DataW H} {ps : List MemPlace} (hv : Value.okWide Try.prog W .any base 28 v) (h : DataW.Trod enc Try.prog W 0 (fun _ => true) true 28 v d ps) :
    ∃ a b c e : Int, v = .agg #[.int .i64 a, .int .i64 b, .int .i64 c, .int .i64 e] ∧ I64 a ∧ I64 b ∧ I64 c ∧ I64 e := by
  obtain ⟨cs, rfl, hsz⟩ := okWide_array Try.underlying28 hv
  rw [cells28] at hsz
  obtain ⟨fuel, hf⟩ := h
  have hall := ints_of_ends hf
  simp only [Value.cells, Array.getElem?_toList] at hall
  obtain ⟨a, ha, wa⟩ := hall 0 (by omega)
  obtain ⟨b, hb, wb⟩ := hall 1 (by omega)
  obtain ⟨c, hc, wc⟩ := hall 2 (by omega)
  obtain ⟨e, he, we⟩ := hall 3 (by omega)
  refine ⟨a, b, c, e, ?_, wa, wb, wc, we⟩
  congr 1
  apply Array.ext_getElem?
  intro i
  match i with
  | 0 => simpa using ha
  | 1 => simpa using hb
  | 2 => simpa using hc
  | 3 => simpa using he
  | i + 4 => rw [Array.getElem?_eq_none (by omega), Array.getElem?_eq_none (by simp)]
/-- An argument that says what is asked. -/
theorem open_asked {H : Type} {enc : TypeId × Value → H} {W : World} {base : Nat} {v : Value} {d : DataW H} {ps : List MemPlace} (hv : Value.okWide Try.prog W .any base 30 v) (h : DataW.Trod enc Try.prog W 0 (fun _ => true) true 30 v d ps) :
    ∃ a b c e f g k : Int, v = .agg #[.int .i64 a, .int .i64 b, .int .i64 c, .int .i64 e, .int .i64 f, .int .i64 g, .int .i64 k] ∧ I64 a ∧ I64 b ∧ I64 c ∧ I64 e ∧ I64 f ∧ I64 g ∧ I64 k := by
  obtain ⟨cs, rfl, hsz⟩ := okWide_struct Try.underlying30 hv
  rw [cells30] at hsz
  obtain ⟨fuel, hf⟩ := h
  have hall := ints_of_asked hf
  simp only [Value.cells, Array.getElem?_toList] at hall
  obtain ⟨a, ha, wa⟩ := hall 0 (by omega)
  obtain ⟨b, hb, wb⟩ := hall 1 (by omega)
  obtain ⟨c, hc, wc⟩ := hall 2 (by omega)
  obtain ⟨e, he, we⟩ := hall 3 (by omega)
  obtain ⟨f, hf', wf⟩ := hall 4 (by omega)
  obtain ⟨g, hg, wg⟩ := hall 5 (by omega)
  obtain ⟨k, hk, wk⟩ := hall 6 (by omega)
  refine ⟨a, b, c, e, f, g, k, ?_, wa, wb, wc, we, wf, wg, wk⟩
  congr 1
  apply Array.ext_getElem?
  intro i
  match i with
  | 0 => simpa using ha
  | 1 => simpa using hb
  | 2 => simpa using hc
  | 3 => simpa using he
  | 4 => simpa using hf'
  | 5 => simpa using hg
  | 6 => simpa using hk
  | i + 7 => rw [Array.getElem?_eq_none (by omega), Array.getElem?_eq_none (by simp)]
/-- An argument that is a list of cells. -/
theorem open_cells {H : Type} {enc : TypeId × Value → H} {W : World} {base : Nat} {v : Value} {d : DataW H} {ps : List MemPlace} (hv : Value.okWide Try.prog W .any base 25 v) (h : DataW.Trod enc Try.prog W 0 (fun _ => true) true 25 v d ps) :
    ∃ (p : Option Addr) (M cap : Nat) (os : List (Int × Int)), v = .slice p M cap ∧ CellsAt W (.slice p M cap) os ∧ ∀ c ∈ os, I64 c.1 ∧ I64 c.2 := by
  obtain ⟨p, len, cap, rfl⟩ := okWide_slice Try.underlying25 hv
  obtain ⟨fuel, hf⟩ := h
  have hf' : DataW.trod enc Try.prog W 0 (fun _ => true) true fuel 25 [Value.slice p len cap] = some (d, ps) := by simpa [Value.cells] using hf
  rcases Go.Deep.open_slice Try.underlying25 hf' with ⟨e, _⟩ | ⟨a, len', cap', m, n, D, Pl, e, _, hlc, hcm, hm, hxe, hx⟩
  · simp at e
    obtain ⟨rfl, rfl, rfl⟩ := e
    exact ⟨none, 0, 0, [], rfl, ⟨none, 0, rfl, fun h => absurd rfl h⟩, by simp⟩
  · simp at e
    obtain ⟨rfl, rfl, rfl⟩ := e
    simp only [cells27, if_true] at hx hm
    subst hm
    have hc : ∀ i, i < len → ∃ c : Int × Int, (W.cell? (a.add (i * 2)) = some (.int .i64 c.1) ∧ W.cell? (a.add (i * 2 + 1)) = some (.int .i64 c.2)) ∧ I64 c.1 ∧ I64 c.2 := fun i hi => by
      obtain ⟨cs', h1, h2⟩ := hx i (by omega)
      obtain ⟨⟨z0, e0, w0⟩, ⟨z1, e1, w1⟩⟩ := ints_of_cell h2
      obtain ⟨_, _, h3⟩ := World.cells?_some h1
      refine ⟨(z0, z1), ⟨?_, ?_⟩, w0, w1⟩
      · have := h3 0 (by omega)
        rw [Go.Deep.add_add, e0] at this
        exact this
      · have := h3 1 (by omega)
        rw [Go.Deep.add_add, e1] at this
        exact this
    obtain ⟨f, hf⟩ := @Go.Deep.choose_lt (Int × Int) ⟨(0, 0)⟩ _ _ hc
    refine ⟨some a, len, m, (List.range len).map f, rfl, ⟨some a, m, by simp, fun hne => ?_⟩, fun c hcm => ?_⟩
    · have h0 : 0 < len := by
        rcases Nat.eq_zero_or_pos len with h | h
        · subst h; simp at hne
        · exact h
      have hc0 := (hf 0 h0).1.1
      obtain ⟨b, o, spot⟩ := a
      have hspot : spot = .none := by simpa [Addr.add] using World.cell?_spot hc0
      subst hspot
      refine ⟨b, o, rfl, fun i hi => ?_⟩
      have hil : i < len := by simpa using hi
      obtain ⟨⟨k1, k2⟩, _⟩ := hf i hil
      rw [Addr.add_mid] at k1 k2
      have e1 : ((List.range len).map f).getD i (0, 0) = f i := by simp [List.getD, hil]
      rw [e1]
      exact ⟨k1, by rw [← k2]; congr 2⟩
    · obtain ⟨i, hi, rfl⟩ := List.mem_map.1 hcm
      exact (hf i (List.mem_range.1 hi)).2
end Go.Proofs.Ytemcbonmlmobkaa
