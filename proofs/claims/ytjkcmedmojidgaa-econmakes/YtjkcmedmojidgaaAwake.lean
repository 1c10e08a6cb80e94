/- awake 8. -/
import Derived.Test.YtjkcmedmojidgaaTrain
namespace Go.Proofs.Ytjkcmedmojidgaa
open Go.RowKit
set_option maxRecDepth 20000 in
set_option maxHeartbeats 4000000 in
theorem awake_any (w : World) : Calls Try.prog 8 #[] w fun e w' => Out w (.bool true) e w' := by
  have h14 : Hid (∀ W, Calls Try.prog 14 #[.agg #[.int .i64 50, .bool true, .slice none 0 0, .int .i64 0], .int .i64 2] W fun e w' => ∃ s cap, e = .returned (.tuple #[.agg #[.int .i64 30, .bool true, .slice s 1 cap, .int .i64 2], .int .i64 0]) ∧ Below W.heap.size W w') := fun W => by
    refine (train_any 50 true [] 0 2 none 0 0 W (ints_nil W) rfl (by omega) (by unfold I64; omega)).mono ?_
    rintro e w' ⟨s, n, cap, hn, rfl, -, hb⟩
    have e1 : trE ⟨50, true, [], 0⟩ 2 = 0 := by decide
    have e2 : tr ⟨50, true, [], 0⟩ 2 = ⟨30, true, [2], 2⟩ := by unfold tr; rw [e1]; rfl
    rw [e2] at hn ⊢
    rw [e1]
    obtain rfl : n = 1 := hn
    exact ⟨s, cap, rfl, hb⟩
  unfold Out
  go_enter Try.func8, Try.ntmps8
  go_wp2_with fail
  refine Calls.mono (h14.out _) ?_
  rintro e w1 ⟨s, cap, rfl, hb⟩
  have HB := hid hb
  clear hb
  go_wp2
  go_ret
  exact ⟨rfl, HB.out.alloc HB.out.size _⟩
end Go.Proofs.Ytjkcmedmojidgaa
