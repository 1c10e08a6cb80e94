/- What Equal answers: whether two tags are the same. -/
import Derived.Test.YtpgckbjcacagdaaDoorOps
import Derived.BigQuiet
import Derived.Deep.QuietTactic
namespace Go.Proofs.YtpgckbjcacagdaaDoor
open Go.RowKit

theorem run_eql_B0 {P : Program} (w : World) (t : TypeId) (p : Byte) : (binOp .eql t (B8 p) (.int .u8 0)).run P w = .ok (.bool (p == 0#8)) w := run_eql_B w t p 0 (by omega)
theorem eqGuard_B (t : TypeId) (x y : Operand) (p : Byte) (v : Value) : eqGuard .eql t x y (B8 p) v = pure () := rfl
def unl (a b : List Byte) : Nat → Byte
  | 0 => 0
  | k + 1 => unl a b k ||| (a.getD k 0 ^^^ b.getD k 0)
theorem unl_zero (a b : List Byte) : ∀ n, unl a b n = 0 ↔ ∀ k, k < n → a.getD k 0 = b.getD k 0
  | 0 => by simp [unl]
  | n + 1 => by
    have e : unl a b (n + 1) = 0 ↔ unl a b n = 0 ∧ a.getD n 0 = b.getD n 0 := by
      show (unl a b n ||| (a.getD n 0 ^^^ b.getD n 0)) = 0 ↔ _
      rw [show (0 : Byte) = 0#8 from rfl, BitVec.or_eq_zero_iff, BitVec.xor_eq_zero_iff]
    rw [e, unl_zero a b n]
    constructor
    · rintro ⟨h1, h2⟩ k hk
      by_cases h : k = n
      · subst h; exact h2
      · exact h1 k (by omega)
    · intro h
      exact ⟨fun k hk => h k (by omega), h n (by omega)⟩
theorem unl_eq (a b : List Byte) (n : Nat) (ha : a.length = n) (hb : b.length = n) : (unl a b n == 0#8) = decide (a = b) := by
  rw [Bool.eq_iff_iff]
  simp only [beq_iff_eq, decide_eq_true_eq]
  rw [show (unl a b n = 0#8) = (unl a b n = 0) from rfl, unl_zero]
  constructor
  · intro h
    apply List.ext_getElem (by omega)
    intro i h1 h2
    have := h i (by omega)
    simpa [h1, h2] using this
  · rintro rfl k _; rfl

attribute [local go_sem] eqGuard_B run_xor_B run_or_B run_eql_B0 match_B run_cells_B run_store_B
set_option maxHeartbeats 1000000 in
theorem equal_any (a b : List Byte) (ha : a.length = 32) (hb : b.length = 32) (w : World) :
    Calls Tryd.prog 21 #[.agg (a.map B8).toArray, .agg (b.map B8).toArray] w fun e w' => e = .returned (.bool (decide (a = b))) ∧ Below w.heap.size w w' := by
  rw [← unl_eq a b 32 ha hb]
  go_enter Tryd.func21, Tryd.ntmps21
  go_wp2
  have hb0 : Blk ((w.alloc (.cells (a.map B8).toArray 26)).alloc (.cells (b.map B8).toArray 26)) w.heap.size (a.map B8) 26 := (Blk.new _ _ _).alloc _
  have hb1 : Blk ((w.alloc (.cells (a.map B8).toArray 26)).alloc (.cells (b.map B8).toArray 26)) (w.heap.size + 1) (b.map B8) 26 := Blk.new' _ _ _ _ (by simp)
  have hbe : Below w.heap.size w ((w.alloc (.cells (a.map B8).toArray 26)).alloc (.cells (b.map B8).toArray 26)) := ((Below.refl _ _).alloc (Nat.le_refl _) _).alloc (by simp) _
  generalize (w.alloc (.cells (a.map B8).toArray 26)).alloc (.cells (b.map B8).toArray 26) = W at *
  go_loopw [5, 7] (fun u i wr => ∃ k n : Nat, k ≤ 32 ∧ i = .int .i64 k ∧ u = B8 (unl a b k) ∧ wr = W.drewN n) (fun _ i _ => 32 - (intOf i).toNat)
  case atStart => exact ⟨0, 0, by omega, rfl, rfl, rfl⟩
  case round =>
    obtain ⟨k, n, hk, rfl, rfl, rfl⟩ := hrel
    by_cases hlt : k < 32
    · have hlt' : (k : Int) < 32 := by omega
      have hi0 : (0 : Int) ≤ (k : Int) := by omega
      have c0 : ∃ x, x = a.getD k 0 ∧ W.cell? ⟨w.heap.size, k, none⟩ = some (B8 x) := ⟨_, rfl, hb0.cellB (by omega)⟩
      have c1 : ∃ x, x = b.getD k 0 ∧ W.cell? ⟨w.heap.size + 1, k, none⟩ = some (B8 x) := ⟨_, rfl, hb1.cellB (by omega)⟩
      obtain ⟨x, hx, c0⟩ := c0
      obtain ⟨y, hy, c1⟩ := c1
      have HX : Hid (∀ m, m = k + 1 → unl a b k ||| (x ^^^ y) = unl a b m) := by rintro m rfl; rw [hx, hy]; rfl
      clear hx hy
      generalize unl a b k = z at *
      go_wp2
      go_quiet (fail)
      go_wp2
      go_roundw
      case rel => exact ⟨k + 1, _, by omega, by go_num, by rw [HX.out _ rfl], rfl⟩
      case measure => simp [intOf]; omega
    · have hk32 : k = 32 := by omega
      have HF : Hid (∀ m, m = 32 → unl a b k = unl a b m) := by rintro m rfl; rw [hk32]
      clear hk32
      generalize unl a b k = z at *
      go_wp2
      go_ret
      exact ⟨by rw [← HF.out 32 rfl]; rfl, Below.drewN hbe n⟩
end Go.Proofs.YtpgckbjcacagdaaDoor
