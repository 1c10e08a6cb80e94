/- What every law's row of this seat shares: arguments that are cells, and lists of calls. -/
import Derived.Test.YtnilgnnlobiojaaRows
import Derived.Test.YtnilgnnlobiojaaSlab
import Derived.Test.YtnilgnnlobiojaaFmap
import Derived.ProofKit
import Derived.OpenShut
import Derived.Deep.Slices
namespace Go.Proofs.Ytnilgnnlobiojaa
open Go.ChangeShapes Go.WideShapes Go.ChangeAt Go.RowKit
theorem own : ownKnob Try.prog.godebug = none := by kernel_rfl
theorem laidOut : laidOutB Try.prog = true := by kernel_rfl
theorem cells3 : Try.prog.cellsOf 3 = 1 := by kernel_rfl
theorem cells32 : Try.prog.cellsOf 32 = 2 := by kernel_rfl
theorem cells34 : Try.prog.cellsOf 34 = 5 := by kernel_rfl
theorem okWide_struct {P : Program} {w : World} {r : Reach} {base : Nat} {t : TypeId} {v : Value} {fs : Array Field} (ht : P.underlying t = some (.struct fs)) (h : Value.okWide P w r base t v) : ∃ cs, v = .agg cs ∧ cs.size = P.cellsOf t := by
  simp only [Value.okWide, ht] at h
  obtain ⟨cs, h1, h2, _⟩ := h
  exact ⟨cs, h1, h2⟩
theorem take_one {l : List Value} {i : Nat} {v : Value} (h : (l.drop i).take 1 = [v]) : l[i]? = some v := by
  have := congrArg (fun z => z[0]?) h
  simpa using this
section
variable {H : Type} {enc : TypeId × Value → H} {W : World} {fuel : Nat} {cs : List Value} {x : DataW H × List MemPlace}
theorem ints_of_cell (h : DataW.trod enc Try.prog W 0 (fun _ => true) true fuel 32 cs = some x) : (∃ z, cs[0]? = some (.int .i64 z) ∧ I64 z) ∧ ∃ z, cs[1]? = some (.int .i64 z) ∧ I64 z := by
  obtain ⟨y0, y1, m, _, _, h0, h1⟩ := trod_struct2 Try.underlying32 h
  obtain ⟨x, e1, _, w1⟩ := DataW.trod_int Try.underlying3 h0
  obtain ⟨y, e2, _, w2⟩ := DataW.trod_int Try.underlying3 h1
  rw [cells3] at e1 e2
  have b1 := bounds_i64 w1
  have b2 := bounds_i64 w2
  exact ⟨⟨x, take_one e1, by unfold I64; omega⟩, ⟨y, take_one e2, by unfold I64; omega⟩⟩
theorem ints_of_op (h : DataW.trod enc Try.prog W 0 (fun _ => true) true fuel 34 cs = some x) : ∀ i, i < 5 → ∃ z, cs[i]? = some (.int .i64 z) ∧ I64 z := by
  obtain ⟨xs, n, _, _, _, hlen, hfi⟩ := DataW.trod_struct Try.underlying34 h
  have int1 : ∀ (off : Nat) y, DataW.trod enc Try.prog W 0 (fun _ => true) true n 3 ((cs.drop off).take (Try.prog.cellsOf 3)) = some y → ∃ z, cs[off]? = some (.int .i64 z) ∧ I64 z := fun off y h => by
    obtain ⟨z, e1, _, w1⟩ := DataW.trod_int Try.underlying3 h
    rw [cells3] at e1
    have b1 := bounds_i64 w1
    exact ⟨z, take_one e1, by unfold I64; omega⟩
  match xs, hlen with
  | [y0, y1, y2, y3], _ =>
    have t0 := int1 0 y0 (hfi 0 _ rfl)
    have t1 := int1 1 y1 (hfi 1 _ rfl)
    have t2 := int1 2 y2 (hfi 2 _ rfl)
    have t3 : DataW.trod enc Try.prog W 0 (fun _ => true) true n 32 ((cs.drop 3).take (Try.prog.cellsOf 32)) = some y3 := hfi 3 _ rfl
    obtain ⟨⟨a, ha, wa⟩, ⟨b, hb, wb⟩⟩ := ints_of_cell t3
    rw [cells32, List.getElem?_take, if_pos (by omega), List.getElem?_drop] at ha hb
    intro i hi
    match i, hi with
    | 0, _ => exact t0
    | 1, _ => exact t1
    | 2, _ => exact t2
    | 3, _ => exact ⟨a, ha, wa⟩
    | 4, _ => exact ⟨b, hb, wb⟩
end
theorem open_cell {H : Type} {enc : TypeId × Value → H} {W : World} {base : Nat} {v : Value} {d : DataW H} {p : List MemPlace} (hv : Value.okWide Try.prog W .any base 32 v) (h : DataW.Trod enc Try.prog W 0 (fun _ => true) true 32 v d p) :
    ∃ x y : Int, v = C x y ∧ I64 x ∧ I64 y := by
  obtain ⟨cs, rfl, hsz⟩ := okWide_struct Try.underlying32 hv
  rw [cells32] at hsz
  obtain ⟨fuel, hf⟩ := h
  obtain ⟨y0, y1, n, _, _, h0, h1⟩ := trod_struct2 Try.underlying32 hf
  obtain ⟨x, e1, _, w1⟩ := DataW.trod_int Try.underlying3 h0
  obtain ⟨y, e2, _, w2⟩ := DataW.trod_int Try.underlying3 h1
  rw [cells3] at e1 e2
  have b1 := bounds_i64 w1
  have b2 := bounds_i64 w2
  have k1 := take_one e1
  have k2 := take_one e2
  simp only [Value.cells, Array.getElem?_toList] at k1 k2
  refine ⟨x, y, ?_, by unfold I64; omega, by unfold I64; omega⟩
  unfold C
  congr 1
  apply Array.ext_getElem?
  intro i
  match i with
  | 0 => simpa using k1
  | 1 => simpa using k2
  | i + 2 => rw [Array.getElem?_eq_none (by omega), Array.getElem?_eq_none (by simp)]
/-- A call: its kind, its ID, its radius, its cell. -/
structure Opn where
  k : Int
  id : Int
  r : Int
  x : Int
  y : Int
def encO (o : Opn) : List Value := [.int .i64 o.k, .int .i64 o.id, .int .i64 o.r, .int .i64 o.x, .int .i64 o.y]
theorem layO : Lay encO 5 := ⟨by omega, fun _ => rfl, fun x v hv => by simp [encO] at hv; rcases hv with rfl | rfl | rfl | rfl | rfl <;> rfl⟩
def Opn.Fits (o : Opn) : Prop := I64 o.k ∧ I64 o.id ∧ I64 o.r ∧ I64 o.x ∧ I64 o.y
/-- An argument that is a list of calls. -/
theorem open_ops {H : Type} {enc : TypeId × Value → H} {W : World} {base : Nat} {v : Value} {d : DataW H} {ps : List MemPlace} (hv : Value.okWide Try.prog W .any base 22 v) (h : DataW.Trod enc Try.prog W 0 (fun _ => true) true 22 v d ps) :
    ∃ (p : Option Addr) (M cap : Nat) (os : List Opn), v = .slice p M cap ∧ M = os.length ∧ RowAt encO 5 W (.slice p M cap) os ∧ ∀ o ∈ os, o.Fits := by
  obtain ⟨p, len, cap, rfl⟩ := okWide_slice Try.underlying22 hv
  obtain ⟨fuel, hf⟩ := h
  have hf' : DataW.trod enc Try.prog W 0 (fun _ => true) true fuel 22 [Value.slice p len cap] = some (d, ps) := by simpa [Value.cells] using hf
  rcases Go.Deep.open_slice Try.underlying22 hf' with ⟨e, _⟩ | ⟨a, len', cap', m, n, D, Pl, e, _, hlc, hcm, hm, hxe, hx⟩
  · simp at e
    obtain ⟨rfl, rfl, rfl⟩ := e
    exact ⟨none, 0, 0, [], rfl, rfl, RowAt.nil _ _ _, by simp⟩
  · simp at e
    obtain ⟨rfl, rfl, rfl⟩ := e
    simp only [cells34, if_true] at hx hm
    subst hm
    have hc : ∀ i, i < len → ∃ c : Opn, (∀ j u, (encO c)[j]? = some u → W.cell? (a.add (i * 5 + j)) = some u) ∧ c.Fits := fun i hi => by
      obtain ⟨cs', h1, h2⟩ := hx i (by omega)
      have hi5 := ints_of_op h2
      obtain ⟨z0, e0, w0⟩ := hi5 0 (by omega)
      obtain ⟨z1, e1, w1⟩ := hi5 1 (by omega)
      obtain ⟨z2, e2, w2⟩ := hi5 2 (by omega)
      obtain ⟨z3, e3, w3⟩ := hi5 3 (by omega)
      obtain ⟨z4, e4, w4⟩ := hi5 4 (by omega)
      obtain ⟨_, _, h3⟩ := World.cells?_some h1
      refine ⟨⟨z0, z1, z2, z3, z4⟩, fun j u hu => ?_, w0, w1, w2, w3, w4⟩
      have hj : j < 5 := (List.getElem?_eq_some_iff.1 hu).1
      have h4 := h3 j hj
      rw [Go.Deep.add_add] at h4
      rw [h4]
      match j, hj with
      | 0, _ => rw [e0]; exact hu
      | 1, _ => rw [e1]; exact hu
      | 2, _ => rw [e2]; exact hu
      | 3, _ => rw [e3]; exact hu
      | 4, _ => rw [e4]; exact hu
    obtain ⟨f, hf⟩ := @Go.Deep.choose_lt Opn ⟨⟨0, 0, 0, 0, 0⟩⟩ _ _ hc
    refine ⟨some a, len, m, (List.range len).map f, rfl, by simp, ⟨some a, m, by simp, by simpa using hlc, fun hne => ?_⟩, fun o ho => ?_⟩
    · have h0 : 0 < len := by
        rcases Nat.eq_zero_or_pos len with h | h
        · subst h; simp at hne
        · exact h
      have hc0 := (hf 0 h0).1 0 _ rfl
      obtain ⟨b, o, spot⟩ := a
      have hspot : spot = .none := by simpa [Addr.add] using World.cell?_spot hc0
      subst hspot
      refine ⟨b, o, rfl, fun i hi j u hu => ?_⟩
      have hil : i < len := by simpa using hi
      have e1 : ((List.range len).map f)[i] = f i := by simp
      rw [e1] at hu
      have := (hf i hil).1 j u hu
      rw [Addr.add_mid] at this
      rw [← this]
      congr 2
      omega
    · obtain ⟨i, hi, rfl⟩ := List.mem_map.1 ho
      exact (hf i (List.mem_range.1 hi)).2
end Go.Proofs.Ytnilgnnlobiojaa
