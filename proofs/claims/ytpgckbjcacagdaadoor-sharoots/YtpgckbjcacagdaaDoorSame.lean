/- What SameBytes answers of two slices that hold the same bytes. -/
import Derived.Test.YtpgckbjcacagdaaDoorHash
import Derived.BigQuiet
import Derived.Deep.QuietTactic
namespace Go.Proofs.YtpgckbjcacagdaaDoor
open Go.RowKit
/-- v is a slice of the bytes bs. -/
def BytesAt (w : World) (v : Value) (bs : List Byte) : Prop :=
  ∃ p cap, v = .slice p bs.length cap ∧ bs.length ≤ cap ∧ (p = none → cap = 0) ∧ (bs ≠ [] → ∃ sb so, p = some ⟨sb, so, none⟩ ∧ ∀ i, i < bs.length → w.cell? ⟨sb, so + i, none⟩ = some (B8 (bs.getD i 0)))
theorem BytesAt.sliceB {w : World} {v : Value} {bs : List Byte} (h : BytesAt w v bs) {hb : Nat} (hh : w.heap.size ≤ hb) : SliceB w hb v bs := by
  obtain ⟨p, cap, rfl, hc, _, h⟩ := h
  refine ⟨p, cap, rfl, hc, fun hn => ?_⟩
  obtain ⟨sb, so, rfl, hcell⟩ := h hn
  refine ⟨sb, so, rfl, ?_, hcell⟩
  have := lt_of_cell (hcell 0 (List.length_pos_iff.2 hn))
  have : sb < w.heap.size := this
  omega
theorem BytesAt.below {w w' : World} {v : Value} {bs : List Byte} (h : BytesAt w v bs) (hb : Below w.heap.size w w') : BytesAt w' v bs := by
  obtain ⟨p, cap, rfl, hc, hz, h⟩ := h
  refine ⟨p, cap, rfl, hc, hz, fun hn => ?_⟩
  obtain ⟨sb, so, rfl, hcell⟩ := h hn
  exact ⟨sb, so, rfl, fun i hi => by rw [hb.cell (p := ⟨sb, so + i, none⟩) (lt_of_cell (hcell i hi))]; exact hcell i hi⟩
theorem run_neq_BB {P : Program} (w : World) (t : TypeId) (p : Byte) : (binOp .neq t (B8 p) (B8 p)).run P w = .ok (.bool false) w := by
  simp [binOp, B8, Op.intCmp]
theorem neqGuard_B (t : TypeId) (x y : Operand) (p : Byte) (v : Value) : eqGuard .neq t x y (B8 p) v = pure () := rfl
attribute [local go_sem] run_neq_BB neqGuard_B
set_option maxHeartbeats 1000000 in
theorem same_any (bs : List Byte) (v0 v1 : Value) (w : World) (h0 : BytesAt w v0 bs) (h1 : BytesAt w v1 bs) (hsz : bs.length < 4611686018427387904) :
    Calls Tryd.prog 22 #[v0, v1] w fun e w' => e = .returned (.bool true) ∧ ∃ n, w' = w.drewN n := by
  obtain ⟨p0, cap0, rfl, hc0, _, h0⟩ := h0
  obtain ⟨p1, cap1, rfl, hc1, _, h1⟩ := h1
  have H0 : Hid (bs ≠ [] → ∃ sb so, p0 = some ⟨sb, so, none⟩ ∧ ∀ i, i < bs.length → w.cell? ⟨sb, so + i, none⟩ = some (B8 (bs.getD i 0))) := h0
  have H1 : Hid (bs ≠ [] → ∃ sb so, p1 = some ⟨sb, so, none⟩ ∧ ∀ i, i < bs.length → w.cell? ⟨sb, so + i, none⟩ = some (B8 (bs.getD i 0))) := h1
  clear h0 h1
  go_enter Tryd.func22, Tryd.ntmps22
  go_wp2
  go_loopw [5] (fun i wr => ∃ k n : Nat, k ≤ bs.length ∧ i = .int .i64 k ∧ wr = w.drewN n) (fun i _ => bs.length - (intOf i).toNat)
  case atStart => exact ⟨0, 0, by omega, rfl, rfl⟩
  case round =>
    obtain ⟨k, n, hk, rfl, rfl⟩ := hrel
    by_cases hlt : k < bs.length
    · have hne : bs ≠ [] := by intro h; rw [h] at hlt; simp at hlt
      obtain ⟨sb0, so0, hp0, hcell0⟩ := H0.out hne
      obtain ⟨sb1, so1, hp1, hcell1⟩ := H1.out hne
      subst hp0 hp1
      have e0 : (0 : Int) ≤ (k : Int) := by omega
      have e1 : (k : Int) < (bs.length : Int) := by omega
      have c0 := hcell0 k hlt
      have c1 := hcell1 k hlt
      generalize bs.getD k 0 = x at c0 c1
      clear hcell0 hcell1 hne
      go_wp2
      go_quiet (fail)
      go_wp2
      go_roundw
      case rel => exact ⟨k + 1, _, by omega, by go_num, rfl⟩
      case measure => simp [intOf]; omega
    · go_wp2
      go_ret
      exact ⟨rfl, n, rfl⟩
end Go.Proofs.YtpgckbjcacagdaaDoor
