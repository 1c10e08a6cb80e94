/- Words of 32 bits and bytes as values of their own, and what the machine's operations do with them. -/
import Derived.WalkKit
namespace Go.Proofs.YtpgckbjcacagdaaDoor
open Go.RowKit

/-- A word of 32 bits, as a value. -/
def U (x : BitVec 32) : Value := .int .u32 x.toNat
/-- A byte, as a value. -/
def B8 (x : BitVec 8) : Value := .int .u8 x.toNat

section
variable {P : Program} (w : World) (t : TypeId) (x y : BitVec 32) (p q : BitVec 8)

theorem wrap_u32 (x : BitVec 32) (n : Int) (h : n % 4294967296 = x.toNat) : IntKind.u32.wrap n = x.toNat := by
  simpa [IntKind.wrap, IntKind.bits, IntKind.signed] using h
theorem wrap_u8 (x : BitVec 8) (n : Int) (h : n % 256 = x.toNat) : IntKind.u8.wrap n = x.toNat := by
  simpa [IntKind.wrap, IntKind.bits, IntKind.signed] using h
theorem wrap_u32_nat (x : BitVec 32) : IntKind.u32.wrap (x.toNat : Int) = x.toNat :=
  wrap_u32 x _ (Int.emod_eq_of_lt (by omega) (by have := x.isLt; omega))
theorem wrap_u8_nat (x : BitVec 8) : IntKind.u8.wrap (x.toNat : Int) = x.toNat :=
  wrap_u8 x _ (Int.emod_eq_of_lt (by omega) (by have := x.isLt; omega))
theorem ofInt_u32 (x : BitVec 32) : BitVec.ofInt IntKind.u32.bits (x.toNat : Int) = x := by
  apply BitVec.eq_of_toNat_eq; have := x.isLt; simp [IntKind.bits]
theorem ofInt_u8 (x : BitVec 8) : BitVec.ofInt IntKind.u8.bits (x.toNat : Int) = x := by
  apply BitVec.eq_of_toNat_eq; have := x.isLt; simp [IntKind.bits]

theorem run_add_U : (binOp .add t (U x) (U y)).run P w = .ok (U (x + y)) w := by
  simp only [binOp, U, Op.intArith, ne_eq, not_true_eq_false, if_false]
  rw [wrap_u32 (x + y)]; rfl
  simp [BitVec.toNat_add]
theorem run_xor_U : (binOp .xor t (U x) (U y)).run P w = .ok (U (x ^^^ y)) w := by
  simp only [binOp, U, Op.intBits, ne_eq, not_true_eq_false, if_false]
  rw [ofInt_u32, ofInt_u32]; show _ = Result.ok (Value.int _ _) w; rw [← wrap_u32_nat (x ^^^ y)]; rfl
theorem run_and_U : (binOp .and t (U x) (U y)).run P w = .ok (U (x &&& y)) w := by
  simp only [binOp, U, Op.intBits, ne_eq, not_true_eq_false, if_false]
  rw [ofInt_u32, ofInt_u32]; show _ = Result.ok (Value.int _ _) w; rw [← wrap_u32_nat (x &&& y)]; rfl
theorem run_or_U : (binOp .or t (U x) (U y)).run P w = .ok (U (x ||| y)) w := by
  simp only [binOp, U, Op.intBits, ne_eq, not_true_eq_false, if_false]
  rw [ofInt_u32, ofInt_u32]; show _ = Result.ok (Value.int _ _) w; rw [← wrap_u32_nat (x ||| y)]; rfl
theorem not_aux (x : BitVec 32) : ((BitVec.ofInt IntKind.u32.bits (if IntKind.u32.signed = true then -1 else IntKind.u32.max) ^^^ BitVec.ofInt IntKind.u32.bits (x.toNat : Int)).toNat : Int) = ((~~~ x).toNat : Int) := by
  rw [ofInt_u32]
  have e1 : (BitVec.ofInt IntKind.u32.bits (if IntKind.u32.signed = true then -1 else IntKind.u32.max) : BitVec 32) = BitVec.allOnes 32 := rfl
  have e2 : (BitVec.allOnes 32 ^^^ x) = ~~~ x := BitVec.allOnes_xor
  rw [← e2, ← e1]; rfl
theorem run_not_U : (Op.unary .xor (U x)).run P w = .ok (U (~~~ x)) w := by
  simp only [Op.unary, U, Op.intBits]
  rw [not_aux, wrap_u32_nat]; rfl
theorem run_shr_U (k : IntKind) (n : Int) (h0 : 0 ≤ n) (h1 : n ≤ 32) : (binOp .shr t (U x) (.int k n)).run P w = .ok (U (x >>> n.toNat)) w := by
  simp only [binOp, U, Op.shift]
  rw [if_neg (by omega)]
  show Result.ok (Value.int _ _) w = _
  congr 2
  have e : min n.toNat IntKind.u32.bits = n.toNat := by simp [IntKind.bits]; omega
  rw [e, BitVec.toNat_ushiftRight, Nat.shiftRight_eq_div_pow]
  rw [Int.fdiv_eq_ediv_of_nonneg _ (by exact Int.le_of_lt (Int.pow_pos (by decide)))]
  simp
theorem run_shl_U (k : IntKind) (n : Int) (h0 : 0 ≤ n) (h1 : n ≤ 32) : (binOp .shl t (U x) (.int k n)).run P w = .ok (U (x <<< n.toNat)) w := by
  simp only [binOp, U, Op.shift]
  rw [if_neg (by omega)]
  show Result.ok (Value.int _ _) w = _
  congr 2
  have e : min n.toNat IntKind.u32.bits = n.toNat := by simp [IntKind.bits]; omega
  rw [e]
  apply wrap_u32
  rw [BitVec.toNat_shiftLeft, Nat.shiftLeft_eq]
  simp

theorem run_xor_B : (binOp .xor t (B8 p) (B8 q)).run P w = .ok (B8 (p ^^^ q)) w := by
  simp only [binOp, B8, Op.intBits, ne_eq, not_true_eq_false, if_false]
  rw [ofInt_u8, ofInt_u8]; show _ = Result.ok (Value.int _ _) w; rw [← wrap_u8_nat (p ^^^ q)]; rfl
theorem run_or_B : (binOp .or t (B8 p) (B8 q)).run P w = .ok (B8 (p ||| q)) w := by
  simp only [binOp, B8, Op.intBits, ne_eq, not_true_eq_false, if_false]
  rw [ofInt_u8, ofInt_u8]; show _ = Result.ok (Value.int _ _) w; rw [← wrap_u8_nat (p ||| q)]; rfl
theorem run_eql_B (n : Nat) (hn : n < 256) : (binOp .eql t (B8 p) (.int .u8 n)).run P w = .ok (.bool (p == BitVec.ofNat 8 n)) w := by
  simp only [binOp, B8, Op.intCmp, ne_eq, not_true_eq_false, if_false]
  show Result.ok (Value.bool _) w = _
  congr 2
  rw [Bool.eq_iff_iff]
  simp only [beq_iff_eq]
  constructor
  · intro h; apply BitVec.eq_of_toNat_eq; simp; omega
  · intro h; subst h; simp; omega

theorem cells_U : (U x).cells = #[U x] := rfl
theorem cells_B : (B8 p).cells = #[B8 p] := rfl
theorem oneCell_U : (U x).oneCell' = true := rfl
theorem oneCell_B : (B8 p).oneCell' = true := rfl
theorem match_U : Value.cells.match_1 (fun _ => Array Value) (U x) (fun cs => cs) (fun v => #[v]) = #[U x] := rfl
theorem match_B : Value.cells.match_1 (fun _ => Array Value) (B8 p) (fun cs => cs) (fun v => #[v]) = #[B8 p] := rfl
theorem run_store_U (a : Addr) (m : Mode) : (store a (U x) m).run P w = stored P w a (U x) m := run_store P w a _ m rfl
theorem run_store_B (a : Addr) (m : Mode) : (store a (B8 p) m).run P w = stored P w a (B8 p) m := run_store P w a _ m rfl
theorem run_cells_U (a : Addr) : (storeCells a [U x]).run P w = stored P w a (U x) .plain := by
  simp only [storeCells, Sem.run_bind, run_store_U, Addr.add, if_pos]
  simp only [Sem.run_pure]
  cases stored P w a (U x) .plain <;> rfl
theorem run_cells_B (a : Addr) : (storeCells a [B8 p]).run P w = stored P w a (B8 p) .plain := by
  simp only [storeCells, Sem.run_bind, run_store_B, Addr.add, if_pos]
  simp only [Sem.run_pure]
  cases stored P w a (B8 p) .plain <;> rfl
theorem conv_BU (s d : TypeId) (hs : P.underlying s = some (.int .u8)) (hd : P.underlying d = some (.int .u32)) : (convert s d (B8 p)).run P w = .ok (U (p.setWidth 32)) w := by
  simp only [convert, B8, Sem.run_bind, run_underlying hs w, run_underlying hd w, Result.andThen]
  simp only [Conv.intToInt]
  show Result.ok (Value.int _ _) w = _
  have : IntKind.u32.wrap (p.toNat : Int) = ((p.setWidth 32).toNat : Int) := by
    apply wrap_u32; simp
  rw [this]; rfl
theorem conv_UB (s d : TypeId) (hs : P.underlying s = some (.int .u32)) (hd : P.underlying d = some (.int .u8)) : (convert s d (U x)).run P w = .ok (B8 (x.setWidth 8)) w := by
  simp only [convert, U, Sem.run_bind, run_underlying hs w, run_underlying hd w, Result.andThen]
  simp only [Conv.intToInt]
  show Result.ok (Value.int _ _) w = _
  have : IntKind.u8.wrap (x.toNat : Int) = ((x.setWidth 8).toNat : Int) := by
    apply wrap_u8; simp
  rw [this]; rfl
end
end Go.Proofs.YtpgckbjcacagdaaDoor
