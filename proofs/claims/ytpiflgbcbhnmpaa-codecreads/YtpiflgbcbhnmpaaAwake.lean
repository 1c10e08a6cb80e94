/- The program does something. -/
import Derived.Test.YtpiflgbcbhnmpaaFormedAll
import Derived.Test.YtpiflgbcbhnmpaaSame
namespace Go.Proofs.Ytpiflgbcbhnmpaa
open Go.RowKit
set_option maxRecDepth 100000 in
set_option maxHeartbeats 1000000 in
theorem awake_any (w : World) : Calls Try.prog 9 #[] w fun e w' => e = .returned (.bool true) ∧ Below w.heap.size w w' := by
  have h10 : Hid (Calls Try.prog 10 #[.slice none 0 0, .int .u64 300] w fun e w' => OutE w w.heap.size [172, 2] 0 e w') := by
    have h := number_any 300 (by omega) [] none 0 0 w rfl (bytes_nil w) (by omega)
    have e1 : numL [] 300 = [172, 2] := by unfold numL; rw [if_pos (by decide), sev_ge (by decide), sev_lt (by decide)]; rfl
    have e2 : numE 300 = 0 := by unfold numE; rw [if_pos (by decide)]
    rw [e1, e2] at h
    exact h
  have h24 : Hid (∀ W, Calls Try.prog 24 #[.agg #[.int .i64 6, .int .i64 0, .int .i64 0, .int .i64 0, .int .i64 0, .int .i64 0]] W fun e w' => e = .returned (.bool true) ∧ Below W.heap.size W w') := fun W => by
    have h := formed_any 6 0 0 0 0 0 W
    have e : frm 6 0 0 0 0 0 = true := by decide
    rw [e] at h
    exact h
  go_enter Try.func9, Try.ntmps9
  go_wp2_with fail
  refine Calls.mono h10.out ?_
  rintro e w1 ⟨p, N, cap, hN, rfl, ho, hb⟩
  obtain ⟨p', cap', he, hc, _, hcell⟩ := ho.bytes
  simp at hN
  subst hN
  simp at he
  obtain ⟨rfl, rfl⟩ := he
  obtain ⟨sb, so, rfl, hcel⟩ := hcell (by simp)
  have c0 : w1.cell? ⟨sb, so, none⟩ = some (.int .u8 172) := hcel 0 (by simp)
  have c1 : w1.cell? ⟨sb, so + 1, none⟩ = some (.int .u8 2) := hcel 1 (by simp)
  clear hcell hcel ho
  go_wp2_with (go_at_call 24; refine Calls.mono (h24.out _) ?_; rintro e w2 ⟨rfl, hb2⟩)
  go_ret
  exact ⟨rfl, hb.trans (hb2.mono hb.size)⟩
end Go.Proofs.Ytpiflgbcbhnmpaa
