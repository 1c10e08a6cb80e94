/- What every law's row of this seat shares: arguments that are maps, lists of cells, and what is asked. -/
import Derived.Test.YteijncfnifebjaaRows
import Derived.Test.YteijncfnifebjaaOwnC
import Derived.Test.YteijncfnifebjaaSlab
import Derived.ProofKit
import Derived.OpenShut
import Derived.Deep.Slices
namespace Go.Proofs.Yteijncfnifebjaa
open Go.ChangeShapes Go.WideShapes Go.ChangeAt Go.RowKit
theorem own : ownKnob Try.prog.godebug = none := by kernel_rfl
theorem laidOut : laidOutB Try.prog = true := by kernel_rfl
theorem cells3 : Try.prog.cellsOf 3 = 1 := by kernel_rfl
theorem cells22 : Try.prog.cellsOf 22 = 1 := by kernel_rfl
theorem cells24 : Try.prog.cellsOf 24 = 4 := by kernel_rfl
theorem cells27 : Try.prog.cellsOf 27 = 2 := by kernel_rfl
theorem okWide_struct {P : Program} {w : World} {r : Reach} {base : Nat} {t : TypeId} {v : Value} {fs : Array Field} (ht : P.underlying t = some (.struct fs)) (h : Value.okWide P w r base t v) : ∃ cs, v = .agg cs ∧ cs.size = P.cellsOf t := by
  simp only [Value.okWide, ht] at h
  obtain ⟨cs, h1, h2, _⟩ := h
  exact ⟨cs, h1, h2⟩
theorem okWide_array {P : Program} {w : World} {r : Reach} {base : Nat} {t : TypeId} {v : Value} {n : Nat} {e : TypeId} (ht : P.underlying t = some (.array n e)) (h : Value.okWide P w r base t v) : ∃ cs, v = .agg cs ∧ cs.size = P.cellsOf t := by
  simp only [Value.okWide, ht] at h
  obtain ⟨cs, h1, h2, _⟩ := h
  exact ⟨cs, h1, h2⟩
theorem take_one {l : List Value} {i : Nat} {v : Value} (h : (l.drop i).take 1 = [v]) : l[i]? = some v := by
  have := congrArg (fun z => z[0]?) h
  simpa using this
theorem ints_nil (w : World) : IntsAt w (.slice none 0 0) [] := ⟨_, 0, rfl, by simp, fun _ => rfl, fun h => absurd rfl h⟩
theorem open_ints_cells {H : Type} {enc : TypeId × Value → H} {W : World} {base : Nat} {sp : Nat → Bool} {held : Bool} {fuel : Nat} {cs : List Value} {y : DataW H × List MemPlace}
    (hf : DataW.trod enc Try.prog W base sp held fuel 22 cs = some y) :
    ∃ (p : Option Addr) (cap : Nat) (zs : List Int), cs = [.slice p zs.length cap] ∧ (∀ z ∈ zs, I64 z) ∧ IntsAt W (.slice p zs.length cap) zs := by
  rcases open_ints Try.underlying22 Try.underlying3 cells3 hf with ⟨hcs, _⟩ | ⟨x, l, c, zs, hcs, _, hl, hm, hz, _, hcell, hwz⟩
  · exact ⟨none, 0, [], by simpa using hcs, by simp, ints_nil W⟩
  · have hzl : l ≤ zs.length := by rw [hz]; split <;> omega
    have hlen : (zs.take l).length = l := by rw [List.length_take]; omega
    refine ⟨some x, c, zs.take l, by rw [hlen]; exact hcs, fun z hz2 => ?_, ⟨some x, c, rfl, by omega, (fun h => by cases h), fun hne => ?_⟩⟩
    · have := bounds_i64 (hwz z (List.mem_of_mem_take hz2))
      unfold I64; omega
    · have hl0 : 0 < l := by
        rcases Nat.eq_zero_or_pos l with h | h
        · subst h; simp at hne
        · exact h
      have hc0 := hcell 0 (by omega)
      obtain ⟨b, off, spot⟩ := x
      have hspot : spot = .none := by simpa [Addr.add] using World.cell?_spot hc0
      subst hspot
      refine ⟨b, off, rfl, fun i hi => ?_⟩
      have hi' : i < l := by omega
      have hc := hcell i (by omega)
      rw [Addr.add_mid] at hc
      rw [hc]
      congr 2
      simp [hi', show i < zs.length by omega]
/-- An argument that is a map. -/
theorem open_map {H : Type} {enc : TypeId × Value → H} {W : World} {base : Nat} {v : Value} {d : DataW H} {p : List MemPlace} (hv : Value.okWide Try.prog W .any base 24 v) (h : DataW.Trod enc Try.prog W 0 (fun _ => true) true 24 v d p) :
    ∃ m : Mp, MapAt W v m ∧ I64 m.W ∧ I64 m.H ∧ (∀ z ∈ m.ts, I64 z) ∧ (∀ z ∈ m.os, I64 z) := by
  obtain ⟨cs, rfl, hsz⟩ := okWide_struct Try.underlying24 hv
  rw [cells24] at hsz
  obtain ⟨fuel, hf⟩ := h
  obtain ⟨xs, n, _, _, _, hlen, hfi⟩ := DataW.trod_struct Try.underlying24 hf
  match xs, hlen with
  | [y0, y1, y2, y3], _ =>
    have h0 : DataW.trod enc Try.prog W 0 (fun _ => true) true n 3 (((Value.agg cs).cells.toList.drop 0).take (Try.prog.cellsOf 3)) = some y0 := hfi 0 _ rfl
    have h1 : DataW.trod enc Try.prog W 0 (fun _ => true) true n 3 (((Value.agg cs).cells.toList.drop 1).take (Try.prog.cellsOf 3)) = some y1 := hfi 1 _ rfl
    have h2 : DataW.trod enc Try.prog W 0 (fun _ => true) true n 22 (((Value.agg cs).cells.toList.drop 2).take (Try.prog.cellsOf 22)) = some y2 := hfi 2 _ rfl
    have h3 : DataW.trod enc Try.prog W 0 (fun _ => true) true n 22 (((Value.agg cs).cells.toList.drop 3).take (Try.prog.cellsOf 22)) = some y3 := hfi 3 _ rfl
    obtain ⟨a, e0, _, w0⟩ := DataW.trod_int Try.underlying3 h0
    obtain ⟨b, e1, _, w1⟩ := DataW.trod_int Try.underlying3 h1
    obtain ⟨p2, c2, ts, e2, z2, i2⟩ := open_ints_cells h2
    obtain ⟨p3, c3, os, e3, z3, i3⟩ := open_ints_cells h3
    rw [cells3] at e0 e1
    rw [cells22] at e2 e3
    have k0 := take_one e0
    have k1 := take_one e1
    have k2 := take_one e2
    have k3 := take_one e3
    have b0 := bounds_i64 w0
    have b1 := bounds_i64 w1
    simp only [Value.cells, Array.getElem?_toList] at k0 k1 k2 k3
    refine ⟨⟨a, b, ts, os⟩, ⟨p2, c2, p3, c3, ?_, i2, i3⟩, by unfold I64; dsimp only; omega, by unfold I64; dsimp only; omega, z2, z3⟩
    congr 1
    apply Array.ext_getElem?
    intro i
    match i with
    | 0 => simpa using k0
    | 1 => simpa using k1
    | 2 => simpa using k2
    | 3 => simpa using k3
    | i + 4 => rw [Array.getElem?_eq_none (by omega), Array.getElem?_eq_none (by simp)]
section
variable {H : Type} {enc : TypeId × Value → H} {W : World} {fuel : Nat} {cs : List Value} {x : DataW H × List MemPlace}
theorem ints_of_cell (h : DataW.trod enc Try.prog W 0 (fun _ => true) true fuel 27 cs = some x) : (∃ z, cs[0]? = some (.int .i64 z) ∧ I64 z) ∧ ∃ z, cs[1]? = some (.int .i64 z) ∧ I64 z := by
  obtain ⟨y0, y1, m, _, _, h0, h1⟩ := trod_struct2 Try.underlying27 h
  obtain ⟨x, e1, _, w1⟩ := DataW.trod_int Try.underlying3 h0
  obtain ⟨y, e2, _, w2⟩ := DataW.trod_int Try.underlying3 h1
  rw [cells3] at e1 e2
  have b1 := bounds_i64 w1
  have b2 := bounds_i64 w2
  exact ⟨⟨x, take_one e1, by unfold I64; omega⟩, ⟨y, take_one e2, by unfold I64; omega⟩⟩
end
/-- An argument that is a list of cells. -/
theorem open_cells {H : Type} {enc : TypeId × Value → H} {W : World} {base : Nat} {v : Value} {d : DataW H} {ps : List MemPlace} (hv : Value.okWide Try.prog W .any base 68 v) (h : DataW.Trod enc Try.prog W 0 (fun _ => true) true 68 v d ps) :
    ∃ (p : Option Addr) (M cap : Nat) (os : List (Int × Int)), v = .slice p M cap ∧ CellsAt W (.slice p M cap) os ∧ ∀ c ∈ os, I64 c.1 ∧ I64 c.2 := by
  obtain ⟨p, len, cap, rfl⟩ := okWide_slice Try.underlying68 hv
  obtain ⟨fuel, hf⟩ := h
  have hf' : DataW.trod enc Try.prog W 0 (fun _ => true) true fuel 68 [Value.slice p len cap] = some (d, ps) := by simpa [Value.cells] using hf
  rcases Go.Deep.open_slice Try.underlying68 hf' with ⟨e, _⟩ | ⟨a, len', cap', m, n, D, Pl, e, _, hlc, hcm, hm, hxe, hx⟩
  · simp at e
    obtain ⟨rfl, rfl, rfl⟩ := e
    exact ⟨none, 0, 0, [], rfl, ⟨none, 0, rfl, fun h => absurd rfl h⟩, by simp⟩
  · simp at e
    obtain ⟨rfl, rfl, rfl⟩ := e
    simp only [cells27, if_true] at hx hm
    subst hm
    have hc : ∀ i, i < len → ∃ c : Int × Int, (W.cell? (a.add (i * 2)) = some (.int .i64 c.1) ∧ W.cell? (a.add (i * 2 + 1)) = some (.int .i64 c.2)) ∧ I64 c.1 ∧ I64 c.2 := fun i hi => by
      obtain ⟨cs', h1, h2⟩ := hx i (by omega)
      obtain ⟨⟨z0, e0, w0⟩, ⟨z1, e1, w1⟩⟩ := ints_of_cell h2
      obtain ⟨_, _, h3⟩ := World.cells?_some h1
      refine ⟨(z0, z1), ⟨?_, ?_⟩, w0, w1⟩
      · have := h3 0 (by omega)
        rw [Go.Deep.add_add, e0] at this
        exact this
      · have := h3 1 (by omega)
        rw [Go.Deep.add_add, e1] at this
        exact this
    obtain ⟨f, hf⟩ := @Go.Deep.choose_lt (Int × Int) ⟨(0, 0)⟩ _ _ hc
    refine ⟨some a, len, m, (List.range len).map f, rfl, ⟨some a, m, by simp, fun hne => ?_⟩, fun c hcm => ?_⟩
    · have h0 : 0 < len := by
        rcases Nat.eq_zero_or_pos len with h | h
        · subst h; simp at hne
        · exact h
      have hc0 := (hf 0 h0).1.1
      obtain ⟨b, o, spot⟩ := a
      have hspot : spot = .none := by simpa [Addr.add] using World.cell?_spot hc0
      subst hspot
      refine ⟨b, o, rfl, fun i hi => ?_⟩
      have hil : i < len := by simpa using hi
      obtain ⟨⟨k1, k2⟩, _⟩ := hf i hil
      rw [Addr.add_mid] at k1 k2
      have e1 : ((List.range len).map f).getD i (0, 0) = f i := by simp [List.getD, hil]
      rw [e1]
      exact ⟨k1, by rw [← k2]; congr 2⟩
    · obtain ⟨i, hi, rfl⟩ := List.mem_map.1 hcm
      exact (hf i (List.mem_range.1 hi)).2
theorem open_cell {H : Type} {enc : TypeId × Value → H} {W : World} {base : Nat} {v : Value} {d : DataW H} {p : List MemPlace} (hv : Value.okWide Try.prog W .any base 27 v) (h : DataW.Trod enc Try.prog W 0 (fun _ => true) true 27 v d p) :
    ∃ x y : Int, v = C x y ∧ I64 x ∧ I64 y := by
  obtain ⟨cs, rfl, hsz⟩ := okWide_struct Try.underlying27 hv
  rw [cells27] at hsz
  obtain ⟨fuel, hf⟩ := h
  obtain ⟨y0, y1, n, _, _, h0, h1⟩ := trod_struct2 Try.underlying27 hf
  obtain ⟨x, e1, _, w1⟩ := DataW.trod_int Try.underlying3 h0
  obtain ⟨y, e2, _, w2⟩ := DataW.trod_int Try.underlying3 h1
  rw [cells3] at e1 e2
  have b1 := bounds_i64 w1
  have b2 := bounds_i64 w2
  have k1 := take_one e1
  have k2 := take_one e2
  simp only [Value.cells, Array.getElem?_toList] at k1 k2
  refine ⟨x, y, ?_, by unfold I64; omega, by unfold I64; omega⟩
  unfold C
  congr 1
  apply Array.ext_getElem?
  intro i
  match i with
  | 0 => simpa using k1
  | 1 => simpa using k2
  | i + 2 => rw [Array.getElem?_eq_none (by omega), Array.getElem?_eq_none (by simp)]
/-- Cells that hold a list of elements. -/
theorem open_row_cells {α : Type} [Inhabited α] {encE : α → List Value} {k : Nat} (hl : Lay encE k) {P : α → Prop} {S T : TypeId} (hS : Try.prog.underlying S = some (.slice T)) (hT : Try.prog.cellsOf T = k) {H : Type} {enc : TypeId × Value → H} {W : World} {fuel : Nat} {cs : List Value} {y : DataW H × List MemPlace}
    (hel : ∀ (fuel : Nat) (cs : List Value) (x : DataW H × List MemPlace), DataW.trod enc Try.prog W 0 (fun _ => true) true fuel T cs = some x → ∃ a : α, (∀ (j : Nat) (u : Value), (encE a)[j]? = some u → cs[j]? = some u) ∧ P a)
    (hf : DataW.trod enc Try.prog W 0 (fun _ => true) true fuel S cs = some y) :
    ∃ (p : Option Addr) (M cap : Nat) (os : List α), cs = [.slice p M cap] ∧ RowAt encE k W (.slice p M cap) os ∧ ∀ c ∈ os, P c := by
  rcases Go.Deep.open_slice hS hf with ⟨e, _⟩ | ⟨a, len, cap, m, n, D, Pl, e, _, hlc, hcm, hm, hxe, hx⟩
  · exact ⟨none, 0, 0, [], e, RowAt.nil _ _ _, by simp⟩
  · simp only [hT, if_true] at hx hm
    subst hm
    have hc : ∀ i, i < len → ∃ c : α, (∀ (j : Nat) (u : Value), (encE c)[j]? = some u → W.cell? (a.add (i * k + j)) = some u) ∧ P c := fun i hi => by
      obtain ⟨cs', h1, h2⟩ := hx i (by omega)
      obtain ⟨c, e0, w0⟩ := hel _ _ _ h2
      obtain ⟨_, _, h3⟩ := World.cells?_some h1
      refine ⟨c, fun j u hu => ?_, w0⟩
      have hj : j < k := by have := (List.getElem?_eq_some_iff.1 hu).1; rw [hl.len] at this; exact this
      have := h3 j (by omega)
      rw [Go.Deep.add_add, e0 j u hu] at this
      exact this
    obtain ⟨f, hf⟩ := @Go.Deep.choose_lt α inferInstance _ _ hc
    refine ⟨some a, len, m, (List.range len).map f, e, ⟨some a, m, by simp, by simp; omega, fun hne => ?_⟩, fun c hcm => ?_⟩
    · have h0 : 0 < len := by
        rcases Nat.eq_zero_or_pos len with h | h
        · subst h; simp at hne
        · exact h
      have hp : 0 < (encE (f 0)).length := by rw [hl.len]; exact hl.pos
      have hc0 := (hf 0 h0).1 0 _ (List.getElem?_eq_getElem hp)
      obtain ⟨b, o, spot⟩ := a
      have hspot : spot = .none := by simpa [Addr.add] using World.cell?_spot hc0
      subst hspot
      refine ⟨b, o, rfl, fun i hi j u hu => ?_⟩
      have hil : i < len := by simpa using hi
      obtain ⟨k1, _⟩ := hf i hil
      have e1 : ((List.range len).map f)[i] = f i := by simp
      rw [e1] at hu
      have := k1 j u hu
      rw [Addr.add_mid] at this
      rw [← this, Nat.add_assoc]
    · obtain ⟨i, hi, rfl⟩ := List.mem_map.1 hcm
      exact (hf i (List.mem_range.1 hi)).2
/-- An argument that is a list of elements. -/
theorem open_row {α : Type} [Inhabited α] {encE : α → List Value} {k : Nat} (hl : Lay encE k) {P : α → Prop} {S T : TypeId} (hS : Try.prog.underlying S = some (.slice T)) (hT : Try.prog.cellsOf T = k) {H : Type} {enc : TypeId × Value → H} {W : World} {base : Nat} {v : Value} {d : DataW H} {ps : List MemPlace}
    (hel : ∀ (fuel : Nat) (cs : List Value) (x : DataW H × List MemPlace), DataW.trod enc Try.prog W 0 (fun _ => true) true fuel T cs = some x → ∃ a : α, (∀ (j : Nat) (u : Value), (encE a)[j]? = some u → cs[j]? = some u) ∧ P a)
    (hv : Value.okWide Try.prog W .any base S v) (h : DataW.Trod enc Try.prog W 0 (fun _ => true) true S v d ps) :
    ∃ (p : Option Addr) (M cap : Nat) (os : List α), v = .slice p M cap ∧ RowAt encE k W (.slice p M cap) os ∧ ∀ c ∈ os, P c := by
  obtain ⟨p, len, cap, rfl⟩ := okWide_slice hS hv
  obtain ⟨fuel, hf⟩ := h
  have hf' : DataW.trod enc Try.prog W 0 (fun _ => true) true fuel S [Value.slice p len cap] = some (d, ps) := by simpa [Value.cells] using hf
  obtain ⟨q, M, c, os, e, h1, h2⟩ := open_row_cells hl hS hT hel hf'
  exact ⟨q, M, c, os, by simpa using e, h1, h2⟩
theorem cells48 : Try.prog.cellsOf 48 = 3 := by kernel_rfl
theorem cells4 : Try.prog.cellsOf 4 = 1 := by kernel_rfl
def I64e (e : Int × Int × Int) : Prop := I64 e.1 ∧ I64 e.2.1 ∧ I64 e.2.2
theorem eye_of {H : Type} {enc : TypeId × Value → H} {W : World} (fuel : Nat) (cs : List Value) (x : DataW H × List MemPlace) (h : DataW.trod enc Try.prog W 0 (fun _ => true) true fuel 48 cs = some x) : ∃ e : Int × Int × Int, (∀ (j : Nat) (u : Value), (encY e)[j]? = some u → cs[j]? = some u) ∧ I64e e := by
  obtain ⟨y0, y1, m, _, _, h0, h1⟩ := trod_struct2 Try.underlying48 h
  obtain ⟨⟨a, ea, wa⟩, ⟨b, eb, wb⟩⟩ := ints_of_cell h0
  obtain ⟨c, ec, _, wc⟩ := DataW.trod_int Try.underlying3 h1
  rw [cells27] at ea eb
  rw [cells3] at ec
  have bc := bounds_i64 wc
  have ec' := take_one ec
  have ea' : (cs.take 2)[0]? = some (.int .i64 a) := ea
  have eb' : (cs.take 2)[1]? = some (.int .i64 b) := eb
  rw [List.getElem?_take, if_pos (by omega)] at ea' eb'
  refine ⟨(a, b, c), fun j u hu => ?_, wa, wb, by unfold I64; dsimp only; omega⟩
  match j with
  | 0 => rw [ea', ← hu]; rfl
  | 1 => rw [eb', ← hu]; rfl
  | 2 => rw [ec', ← hu]; rfl
  | j + 3 => simp [encY] at hu
/-- An argument that is a list of eyes. -/
theorem open_eyes {H : Type} {enc : TypeId × Value → H} {W : World} {base : Nat} {v : Value} {d : DataW H} {ps : List MemPlace} (hv : Value.okWide Try.prog W .any base 25 v) (h : DataW.Trod enc Try.prog W 0 (fun _ => true) true 25 v d ps) :
    ∃ (p : Option Addr) (M cap : Nat) (os : List (Int × Int × Int)), v = .slice p M cap ∧ RowAt encY 3 W (.slice p M cap) os ∧ ∀ c ∈ os, I64e c :=
  open_row layY Try.underlying25 cells48 eye_of hv h
theorem open_eye {H : Type} {enc : TypeId × Value → H} {W : World} {base : Nat} {v : Value} {d : DataW H} {p : List MemPlace} (hv : Value.okWide Try.prog W .any base 48 v) (h : DataW.Trod enc Try.prog W 0 (fun _ => true) true 48 v d p) :
    ∃ e : Int × Int × Int, v = .agg #[.int .i64 e.1, .int .i64 e.2.1, .int .i64 e.2.2] ∧ I64e e := by
  obtain ⟨cs, rfl, hsz⟩ := okWide_struct Try.underlying48 hv
  rw [cells48] at hsz
  obtain ⟨fuel, hf⟩ := h
  obtain ⟨e, he, hw⟩ := eye_of fuel _ _ hf
  refine ⟨e, ?_, hw⟩
  have k0 := he 0 _ rfl
  have k1 := he 1 _ rfl
  have k2 := he 2 _ rfl
  simp only [Value.cells, Array.getElem?_toList] at k0 k1 k2
  congr 1
  apply Array.ext_getElem?
  intro i
  match i with
  | 0 => simpa using k0
  | 1 => simpa using k1
  | 2 => simpa using k2
  | i + 3 => rw [Array.getElem?_eq_none (by omega), Array.getElem?_eq_none (by simp)]
theorem bool_of {H : Type} {enc : TypeId × Value → H} {W : World} (fuel : Nat) (cs : List Value) (x : DataW H × List MemPlace) (h : DataW.trod enc Try.prog W 0 (fun _ => true) true fuel 4 cs = some x) : ∃ b : Bool, (∀ (j : Nat) (u : Value), (encB b)[j]? = some u → cs[j]? = some u) ∧ True := by
  obtain ⟨b, rfl, _⟩ := DataW.trod_bool Try.underlying4 h
  exact ⟨b, fun j u hu => hu, trivial⟩
end Go.Proofs.Yteijncfnifebjaa
