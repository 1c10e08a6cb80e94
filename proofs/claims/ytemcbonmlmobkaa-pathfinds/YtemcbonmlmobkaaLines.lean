/- Line. -/
import Derived.Test.YtemcbonmlmobkaaLine
import Derived.Test.YtemcbonmlmobkaaOwn
import Derived.StillTailTactics
namespace Go.Proofs.Ytemcbonmlmobkaa
open Go.RowKit
/-- v is a slice of the cells cs. -/
def CellsAt (w : World) (v : Value) (cs : List (Int × Int)) : Prop :=
  ∃ p cap, v = .slice p cs.length cap ∧ (cs ≠ [] → ∃ sb so, p = some ⟨sb, so, none⟩ ∧ ∀ i, i < cs.length → w.cell? ⟨sb, so + i * 2, none⟩ = some (.int .i64 (cs.getD i (0, 0)).1) ∧ w.cell? ⟨sb, so + i * 2 + 1, none⟩ = some (.int .i64 (cs.getD i (0, 0)).2))
theorem CellsAt.below {w w' : World} {v : Value} {cs : List (Int × Int)} (h : CellsAt w v cs) (hb : Below w.heap.size w w') : CellsAt w' v cs := by
  obtain ⟨p, cap, rfl, h⟩ := h
  refine ⟨p, cap, rfl, fun hn => ?_⟩
  obtain ⟨sb, so, rfl, hcell⟩ := h hn
  exact ⟨sb, so, rfl, fun i hi => by rw [hb.cell (p := ⟨sb, so + i * 2, none⟩) (lt_of_cell (hcell i hi).1), hb.cell (p := ⟨sb, so + i * 2 + 1, none⟩) (lt_of_cell (hcell i hi).2)]; exact hcell i hi⟩
/-- The cells of a line. -/
def lineOf (ax ay bx by_ : Int) : List (Int × Int) := (List.range ((far ax ay bx by_).toNat + 1)).map (cellAt ax ay bx by_)
def lineM (ax ay bx by_ : Int) : List (Int × Int) := if meas ax ay && meas bx by_ then lineOf ax ay bx by_ else []
def OutLine (w : World) (cs : List (Int × Int)) (e : Ending) (w' : World) : Prop := ∃ v, e = .returned v ∧ CellsAt w' v cs ∧ Below w.heap.size w w'
theorem info27 : (Try.prog.info? 27).map (fun i => (i.zero, i.size, i.bytes)) = some (some (.agg #[.int .i64 0, .int .i64 0]), 2, 16) := by kernel_rfl
/-- Block g has room for M cells; the first k hold f. -/
def LineTo (w : World) (g M k : Nat) (f : Nat → Int × Int) : Prop := ∃ cur : Array Value, w.heap[g]? = some (.cells cur 27 (0, 0)) ∧ cur.size = M * 2 ∧ ∀ j, j < k → cur[j * 2]? = some (.int .i64 (f j).1) ∧ cur[j * 2 + 1]? = some (.int .i64 (f j).2)
theorem LineTo.lt {w : World} {g M k : Nat} {f : Nat → Int × Int} (h : LineTo w g M k f) : g < w.heap.size := by
  obtain ⟨cur, h, _⟩ := h
  exact (Array.getElem?_eq_some_iff.1 h).1
theorem LineTo.cells {w : World} {g M k : Nat} {f : Nat → Int × Int} (h : LineTo w g M k f) (i : Nat) (hi : i < M) : (∃ v, w.cell? ⟨g, i * 2, none⟩ = some v) ∧ (∃ v, w.cell? ⟨g, i * 2 + 1, none⟩ = some v) ∧ w.frozen? ⟨g, i * 2, none⟩ = false ∧ w.frozen? ⟨g, i * 2 + 1, none⟩ = false := by
  obtain ⟨cur, h, hs, _⟩ := h
  rw [cell_of_row _ _ _ _ _ _ h, cell_of_row _ _ _ _ _ _ h]
  refine ⟨⟨cur[i * 2]'(by omega), by simp⟩, ⟨cur[i * 2 + 1]'(by omega), by simp⟩, by simp [World.frozen?, h], by simp [World.frozen?, h]⟩
theorem LineTo.step {w : World} {g M k : Nat} {f : Nat → Int × Int} (h : LineTo w g M k f) (hk : k < M) : LineTo ((w.setCell ⟨g, k * 2, none⟩ (.int .i64 (f k).1)).setCell ⟨g, k * 2 + 1, none⟩ (.int .i64 (f k).2)) g M (k + 1) f := by
  obtain ⟨cur, h, hs, hc⟩ := h
  refine ⟨(cur.setIfInBounds (k * 2) (.int .i64 (f k).1)).setIfInBounds (k * 2 + 1) (.int .i64 (f k).2), ?_, by simp [hs], fun j hj => ?_⟩
  · simp [World.setCell, Array.getElem?_modify, h]
  · simp only [Array.getElem?_setIfInBounds]
    rcases Nat.lt_or_ge j k with h1 | h1
    · rw [if_neg (by omega), if_neg (by omega), if_neg (by omega), if_neg (by omega)]
      exact hc j h1
    · obtain rfl : j = k := by omega
      rw [if_neg (by omega), if_pos rfl, if_pos (by omega), if_pos rfl, if_pos (by simp; omega)]
      exact ⟨rfl, rfl⟩
theorem LineTo.below {w w' : World} {g M k : Nat} {f : Nat → Int × Int} (h : LineTo w g M k f) (hb : w'.heap[g]? = w.heap[g]?) : LineTo w' g M k f := by
  obtain ⟨cur, h, r⟩ := h
  exact ⟨cur, hb.trans h, r⟩
theorem LineTo.done {w : World} {g M : Nat} {f : Nat → Int × Int} (h : LineTo w g M M f) : CellsAt w (.slice (some ⟨g, 0, none⟩) M M) ((List.range M).map f) := by
  refine ⟨some ⟨g, 0, none⟩, M, by simp, fun _ => ⟨g, 0, rfl, fun i hi => ?_⟩⟩
  obtain ⟨cur, h, _, hc⟩ := h
  have hi' : i < M := by simpa using hi
  rw [cell_of_row _ _ _ _ _ _ h, cell_of_row _ _ _ _ _ _ h, Nat.zero_add]
  have := hc i hi'
  simpa [hi'] using this
/-- make([]Cell, n), as the walk meets it. -/
theorem wpL_makeC {ops : Array Oper} {rest : List Oper} {Q : Exit → Act → World → Prop} {a : Act} {w : World} {dd : Option Tmp} {l c : Operand} {tt : TypeId} {pos : String} {af : Array Edge} (M : Nat) (hM : M ≤ 100000) (f : Nat → Int × Int)
    (hl : a.eval l = .int .i64 (M : Int)) (hc : a.eval c = .int .i64 (M : Int))
    (h : ∀ w1, LineTo w1 w.heap.size M 0 f → Below w.heap.size w w1 → wpList Try.prog ops Q rest (a.put dd (.slice (some ⟨w.heap.size, 0, none⟩) M M)) w1) :
    wpList Try.prog ops Q ({ dst := dd, op := .makeSlice 25 l c, type := tt, pos := pos, after := af, guard := .none } :: rest) a w := by
  obtain ⟨i, hi, hz0, hz1, hz2⟩ := info_parts info27
  refine wpList_make_full w rfl l c 25 rfl w.heap.size 27 i (.agg #[.int .i64 0, .int .i64 0]) 2 Try.underlying25 hi hz0 hz1 .i64 .i64 _ _ M hl hc rfl rfl (by rw [hz2]; omega) (by simp only [maxLen]; omega) (Nat.le_refl _) ?_
  intro w1 ho hg
  obtain ⟨_, ⟨hv, _⟩ | ⟨g, cap, cur, hv, _, hh, _, _, hs, _⟩⟩ := ho
  · cases hv
  · simp at hv
    obtain ⟨rfl, rfl⟩ := hv
    exact h w1 ⟨cur, hh, hs, fun j hj => by omega⟩ ⟨hg.os, hg.tape, hg.output, hg.size, fun k hk => hg.block k hk (by simp)⟩
end Go.Proofs.Ytemcbonmlmobkaa
