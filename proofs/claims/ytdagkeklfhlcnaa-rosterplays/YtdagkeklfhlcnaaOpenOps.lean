/- An argument that is a list of calls. -/
import Derived.Test.YtdagkeklfhlcnaaRowKit
import Derived.Test.YtdagkeklfhlcnaaPlaysWalk
import Derived.Deep.Slices
namespace Go.Proofs.Ytdagkeklfhlcnaa
open Go.ChangeShapes Go.WideShapes Go.ChangeAt Go.RowKit
theorem cells34 : Try.prog.cellsOf 34 = 13 := by kernel_rfl
section
variable {H : Type} {enc : TypeId × Value → H} {W : World} {fuel : Nat} {cs : List Value} {x : DataW H × List MemPlace}
theorem ints_of_cell (h : DataW.trod enc Try.prog W 0 (fun _ => true) true fuel 30 cs = some x) : (∃ z, cs[0]? = some (.int .i64 z)) ∧ ∃ z, cs[1]? = some (.int .i64 z) := by
  obtain ⟨y0, y1, m, _, _, h0, h1⟩ := trod_struct2 Try.underlying30 h
  obtain ⟨x, e1, _, _⟩ := DataW.trod_int Try.underlying3 h0
  obtain ⟨y, e2, _, _⟩ := DataW.trod_int Try.underlying3 h1
  rw [cells3] at e1 e2
  exact ⟨⟨x, take_one e1⟩, ⟨y, take_one e2⟩⟩
theorem ints_of_ent (h : DataW.trod enc Try.prog W 0 (fun _ => true) true fuel 32 cs = some x) : ∀ i, i < 11 → ∃ z, cs[i]? = some (.int .i64 z) := by
  obtain ⟨xs, n, _, _, _, hlen, hfi⟩ := DataW.trod_struct Try.underlying32 h
  have int1 : ∀ (off : Nat) y, DataW.trod enc Try.prog W 0 (fun _ => true) true n 3 ((cs.drop off).take (Try.prog.cellsOf 3)) = some y → ∃ z, cs[off]? = some (.int .i64 z) := fun off y h => by
    obtain ⟨z, e1, _, _⟩ := DataW.trod_int Try.underlying3 h
    rw [cells3] at e1
    exact ⟨z, take_one e1⟩
  have cell2 : ∀ (off : Nat) y, DataW.trod enc Try.prog W 0 (fun _ => true) true n 30 ((cs.drop off).take (Try.prog.cellsOf 30)) = some y → (∃ z, cs[off]? = some (.int .i64 z)) ∧ (∃ z, cs[off + 1]? = some (.int .i64 z)) := fun off y h => by
    obtain ⟨⟨a, ha⟩, ⟨b, hb⟩⟩ := ints_of_cell h
    rw [cells30] at ha hb
    rw [List.getElem?_take, if_pos (by omega), List.getElem?_drop] at ha hb
    exact ⟨⟨a, ha⟩, ⟨b, hb⟩⟩
  match xs, hlen with
  | [y0, y1, y2, y3, y4, y5, y6, y7, y8], _ =>
    have t0 := int1 0 y0 (hfi 0 _ rfl)
    have t1 := int1 1 y1 (hfi 1 _ rfl)
    have t2 := int1 2 y2 (hfi 2 _ rfl)
    have t3 := cell2 3 y3 (hfi 3 _ rfl)
    have t5 := int1 5 y4 (hfi 4 _ rfl)
    have t6 := int1 6 y5 (hfi 5 _ rfl)
    have t7 := cell2 7 y6 (hfi 6 _ rfl)
    have t9 := int1 9 y7 (hfi 7 _ rfl)
    have t10 := int1 10 y8 (hfi 8 _ rfl)
    intro i hi
    match i, hi with
    | 0, _ => exact t0
    | 1, _ => exact t1
    | 2, _ => exact t2
    | 3, _ => exact t3.1
    | 4, _ => exact t3.2
    | 5, _ => exact t5
    | 6, _ => exact t6
    | 7, _ => exact t7.1
    | 8, _ => exact t7.2
    | 9, _ => exact t9
    | 10, _ => exact t10
theorem ints_of_op (h : DataW.trod enc Try.prog W 0 (fun _ => true) true fuel 34 cs = some x) : ∀ i, i < 13 → ∃ z, cs[i]? = some (.int .i64 z) := by
  obtain ⟨xs, n, _, _, _, hlen, hfi⟩ := DataW.trod_struct Try.underlying34 h
  have int1 : ∀ (off : Nat) y, DataW.trod enc Try.prog W 0 (fun _ => true) true n 3 ((cs.drop off).take (Try.prog.cellsOf 3)) = some y → ∃ z, cs[off]? = some (.int .i64 z) := fun off y h => by
    obtain ⟨z, e1, _, _⟩ := DataW.trod_int Try.underlying3 h
    rw [cells3] at e1
    exact ⟨z, take_one e1⟩
  match xs, hlen with
  | [y0, y1, y2], _ =>
    have t0 := int1 0 y0 (hfi 0 _ rfl)
    have t1 := int1 1 y1 (hfi 1 _ rfl)
    have t2 : DataW.trod enc Try.prog W 0 (fun _ => true) true n 32 ((cs.drop 2).take (Try.prog.cellsOf 32)) = some y2 := hfi 2 _ rfl
    intro i hi
    match i, hi with
    | 0, _ => exact t0
    | 1, _ => exact t1
    | i + 2, hi =>
      obtain ⟨z, hz⟩ := ints_of_ent t2 i (by omega)
      rw [cells32, List.getElem?_take, if_pos (by omega), List.getElem?_drop] at hz
      exact ⟨z, by rw [Nat.add_comm]; exact hz⟩
end
/-- An argument that is a list of calls. -/
theorem open_ops {H : Type} {enc : TypeId × Value → H} {W : World} {base : Nat} {v : Value} {d : DataW H} {ps : List MemPlace} (hv : Value.okWide Try.prog W .any base 22 v) (h : DataW.Trod enc Try.prog W 0 (fun _ => true) true 22 v d ps) :
    ∃ (p : Option Addr) (M cap : Nat) (os : List (List Int)), v = .slice p M cap ∧ M = os.length ∧ OpsAt W (.slice p M cap) os := by
  obtain ⟨p, len, cap, rfl⟩ := okWide_slice Try.underlying22 hv
  obtain ⟨fuel, hf⟩ := h
  have hf' : DataW.trod enc Try.prog W 0 (fun _ => true) true fuel 22 [Value.slice p len cap] = some (d, ps) := by simpa [Value.cells] using hf
  rcases Go.Deep.open_slice Try.underlying22 hf' with ⟨e, _⟩ | ⟨a, len', cap', m, n, D, Pl, e, _, hlc, hcm, hm, hxe, hx⟩
  · simp at e
    obtain ⟨rfl, rfl, rfl⟩ := e
    exact ⟨none, 0, 0, [], rfl, rfl, none, 0, rfl, fun h => absurd rfl h⟩
  · simp at e
    obtain ⟨rfl, rfl, rfl⟩ := e
    simp only [cells34, if_true] at hx hm
    subst hm
    have hc : ∀ i, i < len → ∃ c : List Int, ∀ j, j < 13 → W.cell? (a.add (i * 13 + j)) = some (.int .i64 (c.getD j 0)) := fun i hi => by
      obtain ⟨cs', h1, h2⟩ := hx i (by omega)
      have hi13 := ints_of_op h2
      obtain ⟨f, hf⟩ := @Go.Deep.choose_lt Int ⟨0⟩ 13 (fun j z => cs'[j]? = some (.int .i64 z)) hi13
      obtain ⟨_, _, h3⟩ := World.cells?_some h1
      refine ⟨(List.range 13).map f, fun j hj => ?_⟩
      have := h3 j hj
      rw [Go.Deep.add_add, hf j hj] at this
      rw [this]
      simp [List.getD, hj]
    obtain ⟨f, hf⟩ := @Go.Deep.choose_lt (List Int) ⟨[]⟩ _ _ hc
    refine ⟨some a, len, m, (List.range len).map f, rfl, by simp, some a, m, by simp, fun hne => ?_⟩
    have h0 : 0 < len := by
      rcases Nat.eq_zero_or_pos len with h | h
      · subst h; simp at hne
      · exact h
    have hc0 := hf 0 h0 0 (by omega)
    obtain ⟨b, o, spot⟩ := a
    have hspot : spot = .none := by simpa [Addr.add] using World.cell?_spot hc0
    subst hspot
    refine ⟨b, o, rfl, fun i hi j hj => ?_⟩
    have hil : i < len := by simpa using hi
    have := hf i hil j hj
    rw [Addr.add_mid] at this
    have e1 : ((List.range len).map f).getD i [] = f i := by simp [List.getD, hil]
    rw [e1, ← this]
    congr 2
    omega
end Go.Proofs.Ytdagkeklfhlcnaa
