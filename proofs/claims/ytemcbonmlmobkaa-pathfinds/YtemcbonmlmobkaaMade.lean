/- Rows that a call makes: make of integers and of truths. -/
import Derived.Test.YtemcbonmlmobkaaRelax
namespace Go.Proofs.Ytemcbonmlmobkaa
open Go.RowKit
theorem info4 : (Try.prog.info? 4).map (fun i => (i.zero, i.size, i.bytes)) = some (some (.bool false), 1, 1) := by kernel_rfl
theorem made {w w1 : World} {t : TypeId} {M : Nat} {xs : List Value} (h : w1.ownsRow w.heap.size t 1 (.slice (some ⟨w.heap.size, 0, none⟩) M M) M xs) (hg : w.grownBy w1 none) : ∃ cur : List Value, Blk w1 w.heap.size cur t ∧ cur.length = M ∧ Below w.heap.size w w1 := by
  obtain ⟨_, ⟨hv, _⟩ | ⟨g, cap, cur, hv, _, hh, _, _, hs, _⟩⟩ := h
  · cases hv
  · simp at hv
    obtain ⟨rfl, rfl⟩ := hv
    exact ⟨cur.toList, by unfold Blk; simpa using hh, by simpa using hs, ⟨hg.os, hg.tape, hg.output, hg.size, fun k hk => hg.block k hk (by simp)⟩⟩
theorem wpL_makeI {ops : Array Oper} {rest : List Oper} {Q : Exit → Act → World → Prop} {a : Act} {w : World} {dd : Option Tmp} {l c : Operand} {tt : TypeId} {pos : String} {af : Array Edge} (M : Nat) (hM : M ≤ 1000)
    (hl : a.eval l = .int .i64 (M : Int)) (hc : a.eval c = .int .i64 (M : Int))
    (h : ∀ w1 (cur : List Value), Blk w1 w.heap.size cur 3 → cur.length = M → Below w.heap.size w w1 → wpList Try.prog ops Q rest (a.put dd (.slice (some ⟨w.heap.size, 0, none⟩) M M)) w1) :
    wpList Try.prog ops Q ({ dst := dd, op := .makeSlice 22 l c, type := tt, pos := pos, after := af, guard := .none } :: rest) a w := by
  obtain ⟨i, hi, hz0, hz1, hz2⟩ := info_parts info3
  refine wpList_make_full w rfl l c 22 rfl w.heap.size 3 i (.int .i64 0) 1 Try.underlying22 hi hz0 hz1 .i64 .i64 _ _ M hl hc rfl rfl (by rw [hz2]; omega) (by simp only [maxLen]; omega) (Nat.le_refl _) ?_
  intro w1 ho hg
  obtain ⟨cur, hcur, hsz, hb1⟩ := made ho hg
  exact h w1 cur hcur hsz hb1
theorem wpL_makeB {ops : Array Oper} {rest : List Oper} {Q : Exit → Act → World → Prop} {a : Act} {w : World} {dd : Option Tmp} {l c : Operand} {tt : TypeId} {pos : String} {af : Array Edge} (M : Nat) (hM : M ≤ 1000)
    (hl : a.eval l = .int .i64 (M : Int)) (hc : a.eval c = .int .i64 (M : Int))
    (h : ∀ w1 (cur : List Value), Blk w1 w.heap.size cur 4 → cur.length = M → Below w.heap.size w w1 → wpList Try.prog ops Q rest (a.put dd (.slice (some ⟨w.heap.size, 0, none⟩) M M)) w1) :
    wpList Try.prog ops Q ({ dst := dd, op := .makeSlice 51 l c, type := tt, pos := pos, after := af, guard := .none } :: rest) a w := by
  obtain ⟨i, hi, hz0, hz1, hz2⟩ := info_parts info4
  refine wpList_make_full w rfl l c 51 rfl w.heap.size 4 i (.bool false) 1 Try.underlying51 hi hz0 hz1 .i64 .i64 _ _ M hl hc rfl rfl (by rw [hz2]; omega) (by simp only [maxLen]; omega) (Nat.le_refl _) ?_
  intro w1 ho hg
  obtain ⟨cur, hcur, hsz, hb1⟩ := made ho hg
  exact h w1 cur hcur hsz hb1
/-- Block g holds the integers d. -/
def IB (w : World) (g : Nat) (d : List Int) : Prop := Blk w g (d.map I) 3
theorem IB.cell {w : World} {g : Nat} {d : List Int} (h : IB w g d) {i : Nat} (hi : i < d.length) : w.cell? ⟨g, i, none⟩ = some (.int .i64 (d.getD i 0)) := by
  rw [Blk.cell h, List.getElem?_map, List.getElem?_eq_getElem hi, List.getD_eq_getElem?_getD, List.getElem?_eq_getElem hi]
  rfl
theorem IB.set {w : World} {g : Nat} {d : List Int} (h : IB w g d) (i : Nat) (v : Int) : IB (w.setCell ⟨g, i, none⟩ (.int .i64 v)) g (d.set i v) := by
  have := Blk.set h i (.int .i64 v)
  unfold IB
  rw [List.map_set]
  exact this
/-- The sum of what a block of integers holds. -/
def sumV : List Value → Nat
  | [] => 0
  | x :: r => (intOf x).toNat + sumV r
def memSum (w : World) (g : Nat) : Nat := match w.heap[g]? with
  | some (.cells cur _ _) => sumV cur.toList
  | _ => 0
theorem sumV_map : ∀ d : List Int, sumV (d.map I) = sumN d
  | [] => rfl
  | x :: r => by
    rw [List.map_cons, sumV, sumN, sumV_map r]
    rfl
theorem IB.sum {w : World} {g : Nat} {d : List Int} (h : IB w g d) : memSum w g = sumN d := by
  unfold IB Blk at h
  unfold memSum
  rw [h]
  simp only
  exact sumV_map d
end Go.Proofs.Ytemcbonmlmobkaa
