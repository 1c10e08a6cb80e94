/- Two digests, as arrays by value, are held against each other. -/
import Derived.Test.YtpgckbjcacagdaaDoorOps
namespace Go.Proofs.YtpgckbjcacagdaaDoor
open Go.RowKit
theorem part5 (w : World) (l : List Byte) (i : Nat) (hi : i < l.length) : (part 5 (l.map B8).toArray i).run Tryd.prog w = .ok (B8 (l.getD i 0)) w := by
  simp [part, go_sem, hi]
theorem eq5 (w : World) (d : Nat) (x y : Byte) : (Op.equalIn (d + 1) 5 (B8 x) (B8 y)).run Tryd.prog w = .ok (x == y) w := by
  simp only [Op.equalIn, Sem.run_bind, run_underlying Tryd.underlying5, Result.andThen_ok, B8]
  have e : ((x.toNat : Int) == (y.toNat : Int)) = (x == y) := by
    rw [Bool.eq_iff_iff]
    simp only [beq_iff_eq]
    constructor
    · intro h; exact BitVec.eq_of_toNat_eq (by omega)
    · rintro rfl; rfl
  simp [e]
theorem size5 (w : World) : (sizeOf 5).run Tryd.prog w = .ok 1 w := by
  simp [go_sem]
/-- The loop that compares two arrays, from place k on. -/
theorem loop_D (w : World) (d : Nat) (a b : List Byte) (n : Nat) (ha : a.length = n) (hb : b.length = n) : ∀ (m k : Nat), k + m = n →
    (forIn (List.range' k m) ((none, ()) : Option Bool × Unit) fun i (_ : Option Bool × Unit) => do
      let x ← part 5 (a.map B8).toArray (i * 1)
      let y ← part 5 (b.map B8).toArray (i * 1)
      let r ← Op.equalIn (d + 1) 5 x y
      if (!r) = true then pure (ForInStep.done ((some false, ()) : Option Bool × Unit)) else pure (ForInStep.yield (none, ()))).run Tryd.prog w =
    .ok (if a.drop k = b.drop k then (none, ()) else (some false, ())) w
  | 0, k, h => by
    have e1 : a.drop k = [] := List.drop_eq_nil_of_le (by omega)
    have e2 : b.drop k = [] := List.drop_eq_nil_of_le (by omega)
    simp [e1, e2]
  | m + 1, k, h => by
    have ih := loop_D w d a b n ha hb m (k + 1) (by omega)
    have hka : k < a.length := by omega
    have hkb : k < b.length := by omega
    have e1 : a.drop k = a.getD k 0 :: a.drop (k + 1) := by rw [List.drop_eq_getElem_cons hka]; simp [hka]
    have e2 : b.drop k = b.getD k 0 :: b.drop (k + 1) := by rw [List.drop_eq_getElem_cons hkb]; simp [hkb]
    rw [List.range'_succ, List.forIn_cons]
    simp only [Nat.mul_one, Sem.run_bind, part5 w a k hka, part5 w b k hkb, eq5, Result.andThen_ok] at ih ⊢
    rw [e1, e2]
    by_cases hxy : a.getD k 0 = b.getD k 0
    · rw [hxy]
      simp only [beq_self_eq_true, Bool.not_true, Bool.false_eq_true, if_false, Sem.run_pure, Result.andThen_ok, List.cons.injEq, true_and]
      exact ih
    · have hb' : (a.getD k 0 == b.getD k 0) = false := by simpa using hxy
      simp only [hb', Bool.not_false, if_true, Sem.run_pure, Result.andThen_ok, List.cons.injEq, hxy, false_and, if_false]
theorem equalIn_D (w : World) (d : Nat) (a b : List Byte) (ha : a.length = 32) (hb : b.length = 32) :
    (Op.equalIn (d + 2) 26 (.agg (a.map B8).toArray) (.agg (b.map B8).toArray)).run Tryd.prog w = .ok (decide (a = b)) w := by
  rw [Op.equalIn]
  simp only [Sem.run_bind, run_underlying Tryd.underlying26, Result.andThen_ok, size5]
  have hl := loop_D w d a b 32 ha hb 32 0 (by omega)
  simp only [Std.Legacy.Range.forIn_eq_forIn_range']
  rw [show ([:32] : Std.Legacy.Range).size = 32 from rfl, hl]
  simp only [List.drop_zero, Result.andThen_ok]
  by_cases h : a = b
  · simp [h]
  · simp [h]
theorem run_eql_D (w : World) (a b : List Byte) (ha : a.length = 32) (hb : b.length = 32) : (binOp .eql 26 (.agg (a.map B8).toArray) (.agg (b.map B8).toArray)).run Tryd.prog w = .ok (.bool (decide (a = b))) w := by
  simp only [binOp, Op.equal, Op.maxDepth, Sem.run_bind, equalIn_D w 9998 a b ha hb, Result.andThen_ok, Sem.run_pure]
theorem run_neq_D (w : World) (a b : List Byte) (ha : a.length = 32) (hb : b.length = 32) : (binOp .neq 26 (.agg (a.map B8).toArray) (.agg (b.map B8).toArray)).run Tryd.prog w = .ok (.bool (!decide (a = b))) w := by
  simp only [binOp, Op.equal, Op.maxDepth, Sem.run_bind, equalIn_D w 9998 a b ha hb, Result.andThen_ok, Sem.run_pure]
theorem eqGuard_D (w : World) (x y : Operand) (a b : Array Value) : (eqGuard .eql 26 x y (.agg a) (.agg b)).run Tryd.prog w = .ok () w := by
  simp [eqGuard, Sem.run_bind, go_sem]
theorem neqGuard_D (w : World) (x y : Operand) (a b : Array Value) : (eqGuard .neq 26 x y (.agg a) (.agg b)).run Tryd.prog w = .ok () w := by
  simp [eqGuard, Sem.run_bind, go_sem]
end Go.Proofs.YtpgckbjcacagdaaDoor
