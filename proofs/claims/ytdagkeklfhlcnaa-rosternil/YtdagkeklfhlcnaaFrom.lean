/- From: of no list, and of a list of one entity. -/
import Derived.Test.YtdagkeklfhlcnaaLst
import Derived.Laws.IdiomCopy
namespace Go.Proofs.Ytdagkeklfhlcnaa
open Go.RowKit
set_option maxHeartbeats 1000000 in
theorem riseNil_any (next : Int) (w : World) : Calls Try.prog 32 #[.slice none 0 0, .int .i64 next] w fun r w' => r = .returned (.bool true) ∧ w' = w := by
  go_enter Try.func32, Try.ntmps32
  go_wp2_with fail
  go_loopw [10] (fun iv wr => iv = .int .i64 0 ∧ wr = w) (fun _ _ => 0)
  case atStart => exact ⟨rfl, rfl⟩
  case round =>
    obtain ⟨rfl, rfl⟩ := hrel
    go_wp2
    go_ret
    exact ⟨rfl, rfl⟩
theorem zeros_elev : Elev (List.replicate 40 (List.replicate 11 0)) := fun e h => by rw [List.eq_of_mem_replicate h]; rfl
theorem none_elev : Elev [] := fun _ h => by cases h
/-- A table with its numbers set. -/
theorem build60 (n past : Int) (w : World) : (Instr.build 60 #[(1, .int .i64 n), (2, .int .i64 past)]).run Try.prog w = .ok (.agg (tbL [] (List.replicate 40 (List.replicate 11 0)) n past).toArray) w := by
  have hs : zT.length = 442 := tbL_length none_elev zeros_elev (by simp) 0 0
  have e1 := (tbL_set none_elev zeros_elev (by simp) 0 0 n).1
  have e2 := (tbL_set none_elev zeros_elev (by simp) n 0 past).2
  have e3 : (zT.set 440 (I n)).set 441 (I past) = tbL [] (List.replicate 40 (List.replicate 11 0)) n past := by
    show ((tbL [] (List.replicate 40 (List.replicate 11 0)) 0 0).set 440 (I n)).set 441 (I past) = _
    rw [e1, e2]
  rw [← e3]
  have hz := zv60 w
  generalize zT = Z at *
  clear e1 e2 e3
  simp [Instr.build, hz, run_underlying Try.underlying60, Try.sizeOf58, Try.sizeOf3, Instr.fill, hs, Value.cells, I]
theorem wpL_build {ops : Array Oper} {rest : List Oper} {Q : Exit → Act → World → Prop} {a : Act} {w : World} {dd : Option Tmp} {x y : Operand} {tt : TypeId} {pos : String} {af : Array Edge} (n past : Int)
    (hx : a.eval x = .int .i64 n) (hy : a.eval y = .int .i64 past) (h : wpList Try.prog ops Q rest (a.put dd (.agg (tbL [] (List.replicate 40 (List.replicate 11 0)) n past).toArray)) w) :
    wpList Try.prog ops Q ({ dst := dd, op := .build 60 #[(1, x), (2, y)], type := tt, pos := pos, after := af, guard := .none } :: rest) a w := by
  have hrun := build60 n past w
  refine wpList_plain rfl fun K hK => ?_
  unfold Oper.wp
  simp [execOp, hx, hy, hrun, Result.andThen]
  exact hK _ _ h
/-- copy of nothing, and of entities, into a table's room. -/
theorem wpL_copyNil {ops : Array Oper} {rest : List Oper} {Q : Exit → Act → World → Prop} {a : Act} {w : World} {dd : Option Tmp} {d x : Operand} {tt : TypeId} {pos : String} {af : Array Edge} (g : Nat)
    (hd : a.eval d = .slice (some ⟨g, 0, none⟩) 40 40) (hx : a.eval x = .slice none 0 0) (h : wpList Try.prog ops Q rest (a.put dd (goInt 0)) w) :
    wpList Try.prog ops Q ({ dst := dd, op := .call { callee := .builtin .copy, args := #[d, x], argTypes := #[36, 36] }, type := tt, pos := pos, after := af, guard := .none } :: rest) a w := by
  obtain ⟨i, hi, hz0, hz1, hz2⟩ := info_parts info32
  have hrun : (Builtin.copy_ #[36, 36] tt #[.slice (some ⟨g, 0, none⟩) 40 40, .slice none 0 0]).run Try.prog w = .ok (goInt 0) w := by
    simp [Builtin.copy_, run_underlying Try.underlying36, Builtin.lenOf, sizeOf, typeInfo, hi, Builtin.firstCells, storeCells]
  refine wpList_plain rfl fun K hK => ?_
  unfold Oper.wp
  simp [execOp, resolve, invoke, builtin, hd, hx, hrun, Result.andThen]
  exact hK _ _ h
theorem wpL_copyE {ops : Array Oper} {rest : List Oper} {Q : Exit → Act → World → Prop} {a : Act} {w : World} {dd : Option Tmp} {d x : Operand} {tt : TypeId} {pos : String} {af : Array Edge} (g : Nat) (ad : Addr) (m c : Nat) (cs : List Value)
    (hd : a.eval d = .slice (some ⟨g, 0, none⟩) 40 40) (hx : a.eval x = .slice (some ad) m c) (hm : m ≤ 40) (hl : cs.length = m * 11) (hcs : ∀ j v, cs[j]? = some v → w.cell? (ad.add j) = some v) (hth : w.there g 0 cs.length) (h1 : ∀ v ∈ cs, v.oneCell' = true)
    (h : wpList Try.prog ops Q rest (a.put dd (goInt m)) (w.setCells g 0 cs)) :
    wpList Try.prog ops Q ({ dst := dd, op := .call { callee := .builtin .copy, args := #[d, x], argTypes := #[36, 36] }, type := tt, pos := pos, after := af, guard := .none } :: rest) a w := by
  obtain ⟨i, hi, hz0, hz1, hz2⟩ := info_parts info32
  have hmin : Nat.min m 40 = m := Nat.min_eq_left hm
  have hfc := run_firstCells_some (P := Try.prog) (w := w) 11 m ad m c cs hl hcs
  have hst := run_storeCells_cells (P := Try.prog) g 0 cs 0 w (fun j hj => by rw [Nat.add_zero]; exact (hth j hj).1) (fun j hj => by rw [Nat.add_zero]; exact (hth j hj).2) h1
  simp only [Nat.add_zero] at hst
  have hrun : (Builtin.copy_ #[36, 36] tt #[.slice (some ⟨g, 0, none⟩) 40 40, .slice (some ad) m c]).run Try.prog w = .ok (goInt m) (w.setCells g 0 cs) := by
    simp [Builtin.copy_, run_underlying Try.underlying36, Builtin.lenOf, sizeOf, typeInfo, hi, hz1, hmin, hfc, hst]
  refine wpList_plain rfl fun K hK => ?_
  unfold Oper.wp
  simp [execOp, resolve, invoke, builtin, hd, hx, hrun, Result.andThen]
  exact hK _ _ h
set_option maxHeartbeats 1000000 in
theorem fromNil_any (next : Int) (hn : 0 < next ∧ next ≤ 2147483647) (w : World) : Calls Try.prog 16 #[.slice none 0 0, .int .i64 next] w fun r w' => r = .returned (.tuple #[P w.heap.size, .int .i64 0]) ∧ Tb w' w.heap.size [] (next - 1) ∧ Below w.heap.size w w' := by
  have h32 := hid (riseNil_any next)
  obtain ⟨hn1, hn2⟩ := hn
  have hn3 : (2147483647 < next) = False := by simp; omega
  unfold P
  go_enter Try.func16, Try.ntmps16
  go_wp2_with fail
  refine Calls.mono (h32.out _) ?_
  rintro e w1 ⟨rfl, rfl⟩
  go_wp2_with (first
    | ((with_reducible refine wpL_build 0 (next - 1) ?_ ?_ ?_); (rfl); (rfl); (simp only [Act.put, List.setIfInBounds_toArray, List.set_cons_zero, List.set_cons_succ]))
    | ((with_reducible refine wpL_copyNil w1.heap.size ?_ ?_ ?_); (rfl); (rfl); (simp only [Act.put, List.setIfInBounds_toArray, List.set_cons_zero, List.set_cons_succ])))
  go_ret2
  exact ⟨rfl, ⟨_, Blk.new _ _ _, none_elev, zeros_elev, by simp⟩, (Below.refl _ _).alloc (Nat.le_refl _) _⟩
end Go.Proofs.Ytdagkeklfhlcnaa
