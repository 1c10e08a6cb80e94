/- Two numbers of 160 bits, as arrays by value, are held against each other. -/
import Derived.Test.YtdfobaggdeoggaaBig
namespace Go.Proofs.Ytdfobaggdeoggaa
open Go.RowKit
abbrev BV (x : Bool) : Value := .bool x
def bitsL (n : Nat) : List Bool := (List.range 160).map fun i => n.testBit i
theorem big_bits (n : Nat) : big n = (bitsL n).map BV := by simp [big, bitsL, BV]
theorem bitsL_length (n : Nat) : (bitsL n).length = 160 := by simp [bitsL]
theorem bitsL_inj {a b : Nat} (ha : a < 2 ^ 160) (hb : b < 2 ^ 160) : (bitsL a = bitsL b) ↔ a = b := by
  constructor
  · intro h
    apply Nat.eq_of_testBit_eq
    intro i
    by_cases hi : i < 160
    · have e := congrArg (fun l => l[i]?) h
      simp [bitsL, List.getElem?_range hi] at e
      exact e
    · rw [Nat.testBit_lt_two_pow (Nat.lt_of_lt_of_le ha (Nat.pow_le_pow_right (by omega) (by omega))), Nat.testBit_lt_two_pow (Nat.lt_of_lt_of_le hb (Nat.pow_le_pow_right (by omega) (by omega)))]
  · rintro rfl; rfl
theorem part4 (w : World) (l : List Bool) (i : Nat) (hi : i < l.length) : (part 4 (l.map BV).toArray i).run Try.prog w = .ok (BV (l.getD i false)) w := by
  simp [part, go_sem, hi]
theorem eq4 (w : World) (d : Nat) (x y : Bool) : (Op.equalIn (d + 1) 4 (BV x) (BV y)).run Try.prog w = .ok (x == y) w := by
  simp only [Op.equalIn, Sem.run_bind, run_underlying Try.underlying4, Result.andThen_ok]
  simp
theorem size4 (w : World) : (sizeOf 4).run Try.prog w = .ok 1 w := by
  simp [go_sem]
/-- The loop that compares two arrays, from place k on. -/
theorem loop_B (w : World) (d : Nat) (a b : List Bool) (n : Nat) (ha : a.length = n) (hb : b.length = n) : ∀ (m k : Nat), k + m = n →
    (forIn (List.range' k m) ((none, ()) : Option Bool × Unit) fun i (_ : Option Bool × Unit) => do
      let x ← part 4 (a.map BV).toArray (i * 1)
      let y ← part 4 (b.map BV).toArray (i * 1)
      let r ← Op.equalIn (d + 1) 4 x y
      if (!r) = true then pure (ForInStep.done ((some false, ()) : Option Bool × Unit)) else pure (ForInStep.yield (none, ()))).run Try.prog w =
    .ok (if a.drop k = b.drop k then (none, ()) else (some false, ())) w
  | 0, k, h => by
    have e1 : a.drop k = [] := List.drop_eq_nil_of_le (by omega)
    have e2 : b.drop k = [] := List.drop_eq_nil_of_le (by omega)
    simp [e1, e2]
  | m + 1, k, h => by
    have ih := loop_B w d a b n ha hb m (k + 1) (by omega)
    have hka : k < a.length := by omega
    have hkb : k < b.length := by omega
    have e1 : a.drop k = a.getD k false :: a.drop (k + 1) := by rw [List.drop_eq_getElem_cons hka]; simp [hka]
    have e2 : b.drop k = b.getD k false :: b.drop (k + 1) := by rw [List.drop_eq_getElem_cons hkb]; simp [hkb]
    rw [List.range'_succ, List.forIn_cons]
    simp only [Nat.mul_one, Sem.run_bind, part4 w a k hka, part4 w b k hkb, eq4, Result.andThen_ok] at ih ⊢
    rw [e1, e2]
    by_cases hxy : a.getD k false = b.getD k false
    · rw [hxy]
      simp only [beq_self_eq_true, Bool.not_true, Bool.false_eq_true, if_false, Sem.run_pure, Result.andThen_ok, List.cons.injEq, true_and]
      exact ih
    · have hb' : (a.getD k false == b.getD k false) = false := by simpa using hxy
      simp only [hb', Bool.not_false, if_true, Sem.run_pure, Result.andThen_ok, List.cons.injEq, hxy, false_and, if_false]
theorem equalIn_B (w : World) (d : Nat) (a b : List Bool) (ha : a.length = 160) (hb : b.length = 160) :
    (Op.equalIn (d + 2) 37 (.agg (a.map BV).toArray) (.agg (b.map BV).toArray)).run Try.prog w = .ok (decide (a = b)) w := by
  rw [Op.equalIn]
  simp only [Sem.run_bind, run_underlying Try.underlying37, Result.andThen_ok, size4]
  have hl := loop_B w d a b 160 ha hb 160 0 (by omega)
  simp only [Std.Legacy.Range.forIn_eq_forIn_range']
  rw [show ([:160] : Std.Legacy.Range).size = 160 from rfl, hl]
  simp only [List.drop_zero, Result.andThen_ok]
  by_cases h : a = b
  · simp [h]
  · simp [h]
theorem run_neq_big (w : World) (a : Nat) (ha : a < 2 ^ 160) : (binOp .neq 37 (.agg (big a).toArray) (.agg (big 0).toArray)).run Try.prog w = .ok (.bool (decide (a ≠ 0))) w := by
  rw [big_bits, big_bits]
  simp only [binOp, Op.equal, Op.maxDepth, Sem.run_bind, equalIn_B w 9998 _ _ (bitsL_length a) (bitsL_length 0), Result.andThen_ok, Sem.run_pure]
  congr 2
  rw [Bool.eq_iff_iff]
  simp [bitsL_inj ha (show 0 < 2 ^ 160 by decide)]
theorem neqGuard_big (w : World) (x y : Operand) (a b : Array Value) : (eqGuard .neq 37 x y (.agg a) (.agg b)).run Try.prog w = .ok () w := by
  simp [eqGuard, Sem.run_bind, go_sem]
end Go.Proofs.Ytdfobaggdeoggaa
