/- A result is held against itself. -/
import Derived.Test.YtpiflgbcbhnmpaaSameS
import Derived.Test.YtpiflgbcbhnmpaaRres
namespace Go.Proofs.Ytpiflgbcbhnmpaa
open Go.RowKit
theorem ext_mid (pre d post : List Value) (n m : Nat) (hn : pre.length = n) (h : d.length = 32) (hm : m = n + 32) : (pre ++ (d ++ post)).toArray.extract n m = d.toArray := by
  subst hm
  rw [List.extract_toArray, List.extract_eq_take_drop, List.drop_append, hn, Nat.sub_self, List.drop_eq_nil_of_le (by omega)]
  simp [h]
theorem eq_int (w : World) (d : Nat) (t : TypeId) (k k' : IntKind) (n : Int) (hu : Try.prog.underlying t = some (.int k')) : (Op.equalIn (d + 1) t (.int k n) (.int k n)).run Try.prog w = .ok true w := by
  rw [Op.equalIn]
  simp only [Sem.run_bind, run_underlying hu, Result.andThen_ok]
  simp
theorem eq_res (w : World) (d : Nat) (r : Rs) (hl : r.la.length = 32) (ht : r.tg.length = 32) : (Op.equalIn (d + 3) 41 (.agg r.cells.toArray) (.agg r.cells.toArray)).run Try.prog w = .ok true w := by
  have ha : (r.la.map By).length = 32 := by rw [List.length_map]; exact hl
  have hb : (r.tg.map By).length = 32 := by rw [List.length_map]; exact ht
  have p0 : r.cells.toArray[0]? = some (.int .u64 (r.m : Int)) := by rw [List.getElem?_toArray]; rfl
  have p1 : r.cells.toArray[1]? = some (.int .i64 r.tn) := by rw [List.getElem?_toArray]; rfl
  have p2 : r.cells.toArray[2]? = some (.int .i64 r.wn) := by rw [List.getElem?_toArray]; rfl
  have p3 : r.cells.toArray.extract 3 35 = (r.la.map By).toArray := ext_mid [.int .u64 (r.m : Int), .int .i64 r.tn, .int .i64 r.wn] _ (r.tg.map By) 3 35 rfl ha rfl
  have p4 : r.cells.toArray.extract 35 67 = (r.tg.map By).toArray := by
    have := ext_mid ([.int .u64 (r.m : Int), .int .i64 r.tn, .int .i64 r.wn] ++ r.la.map By) (r.tg.map By) [] 35 67 (by simp [hl]) hb rfl
    rw [List.append_nil, List.append_assoc] at this
    exact this
  have e3 := equalIn_D w d r.la r.la hl hl
  have e4 := equalIn_D w d r.tg r.tg ht ht
  simp only [decide_true] at e3 e4
  have q0 := eq_int w (d + 1) 22 .u64 _ (r.m : Int) Try.underlying22
  have q1 := eq_int w (d + 1) 3 .i64 _ r.tn Try.underlying3
  have q2 := eq_int w (d + 1) 3 .i64 _ r.wn Try.underlying3
  generalize (r.la.map By).toArray = A at *
  generalize (r.tg.map By).toArray = T at *
  generalize r.cells.toArray = C at *
  rw [Op.equalIn]
  simp only [Sem.run_bind, run_underlying Try.underlying41, Result.andThen_ok]
  simp only [go_sem]
  simp [p0, p1, p2, p3, p4, q0, q1, q2, e3, e4]
theorem run_neq_R (w : World) (r : Rs) (hl : r.la.length = 32) (ht : r.tg.length = 32) : (binOp .neq 41 (.agg r.cells.toArray) (.agg r.cells.toArray)).run Try.prog w = .ok (.bool false) w := by
  simp only [binOp, Op.equal, Op.maxDepth, Sem.run_bind, eq_res w 9997 r hl ht, Result.andThen_ok, Sem.run_pure]
  rfl
end Go.Proofs.Ytpiflgbcbhnmpaa
