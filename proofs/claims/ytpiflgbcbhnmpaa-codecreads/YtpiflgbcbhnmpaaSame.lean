/- What SameBytes answers of two slices that hold the same bytes. -/
import Derived.Test.YtpiflgbcbhnmpaaSgn
namespace Go.Proofs.Ytpiflgbcbhnmpaa
open Go.RowKit
set_option maxHeartbeats 1000000 in
theorem same_any (bs : List Nat) (p0 p1 : Option Addr) (M cap0 cap1 : Nat) (w : World) (hM : M = bs.length) (h0 : BytesAt w (.slice p0 M cap0) bs) (h1 : BytesAt w (.slice p1 M cap1) bs) (hsz : M < 4611686018427387904) :
    Calls Try.prog 14 #[.slice p0 M cap0, .slice p1 M cap1] w fun e w' => e = .returned (.bool true) ∧ ∃ n, w' = w.drewN n := by
  obtain ⟨p0', cap0', he0, hc0, _, h0⟩ := h0
  obtain ⟨p1', cap1', he1, hc1, _, h1⟩ := h1
  simp at he0 he1
  obtain ⟨rfl, _, rfl⟩ := he0
  obtain ⟨rfl, _, rfl⟩ := he1
  have H0 : Hid (bs ≠ [] → ∃ sb so, p0 = some ⟨sb, so, none⟩ ∧ ∀ i, i < bs.length → w.cell? ⟨sb, so + i, none⟩ = some (By (bs.getD i 0))) := h0
  have H1 : Hid (bs ≠ [] → ∃ sb so, p1 = some ⟨sb, so, none⟩ ∧ ∀ i, i < bs.length → w.cell? ⟨sb, so + i, none⟩ = some (By (bs.getD i 0))) := h1
  have HM : Hid (M = bs.length) := hM
  clear h0 h1 hM hc0 hc1
  go_enter Try.func14, Try.ntmps14
  go_wp2
  go_loopw [5] (fun i wr => ∃ k n : Nat, k ≤ M ∧ i = .int .i64 k ∧ wr = w.drewN n) (fun i _ => M - (intOf i).toNat)
  case atStart => exact ⟨0, 0, by omega, rfl, rfl⟩
  case round =>
    obtain ⟨k, n, hk, rfl, rfl⟩ := hrel
    by_cases hlt : k < M
    · have hlb : k < bs.length := by have := HM.out; omega
      have hne : bs ≠ [] := by intro h; rw [h] at hlb; simp at hlb
      obtain ⟨sb0, so0, hp0, hcell0⟩ := H0.out hne
      obtain ⟨sb1, so1, hp1, hcell1⟩ := H1.out hne
      subst hp0 hp1
      have e0 : (0 : Int) ≤ (k : Int) := by omega
      have e1 : (k : Int) < (M : Int) := by omega
      have c0 := hcell0 k hlb
      have c1 := hcell1 k hlb
      generalize bs.getD k 0 = x at c0 c1
      unfold By at c0 c1
      clear hcell0 hcell1 hne
      go_wp2
      go_quiet (fail)
      go_wp2
      go_roundw
      case rel => exact ⟨k + 1, _, by omega, by go_num, rfl⟩
      case measure => simp [intOf]; omega
    · go_wp2
      go_ret
      exact ⟨rfl, n, rfl⟩
end Go.Proofs.Ytpiflgbcbhnmpaa
