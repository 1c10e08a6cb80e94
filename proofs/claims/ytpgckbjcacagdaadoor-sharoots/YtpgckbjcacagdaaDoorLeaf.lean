/- What the program's small functions on words answer: turnRight, choose, majority, the four sums, and the reference's rotr. -/
import Derived.Test.YtpgckbjcacagdaaDoorChecked
import Derived.Test.YtpgckbjcacagdaaDoorVals
import Derived.Test.YtpgckbjcacagdaaDoorPure
namespace Go.Proofs.YtpgckbjcacagdaaDoor
open Go.RowKit
attribute [local go_sem] run_add_U run_xor_U run_and_U run_or_U run_not_U run_shr_U run_shl_U run_xor_B run_or_B run_eql_B cells_U cells_B oneCell_U oneCell_B

theorem turn_any (x : Word) (n : Int) (m : Nat) (hn : n = m) (h0 : 1 ≤ m) (h1 : m ≤ 31) (w : World) :
    Calls Tryd.prog 43 #[U x, .int .u64 n] w fun e w' => e = .returned (U (rotr x m)) ∧ w' = w := by
  have h2 : rotr x m = x >>> n.toNat ||| x <<< (32 - n).toNat := by
    have e1 : n.toNat = m := by omega
    have e2 : (32 - n).toNat = 32 - m := by omega
    rw [e1, e2]; rfl
  rw [h2]
  have a0 : 0 ≤ n := by omega
  have a1 : n ≤ 32 := by omega
  have a2 : 0 ≤ 32 - n := by omega
  have a3 : 32 - n ≤ 32 := by omega
  clear h2 hn h0 h1
  go_enter Tryd.func43, Tryd.ntmps43
  go_wp2
  go_ret
  exact ⟨rfl, rfl⟩
theorem rotr_any (x : Word) (n : Int) (m : Nat) (hn : n = m) (h0 : 1 ≤ m) (h1 : m ≤ 31) (w : World) :
    Calls Tryd.prog 33 #[U x, .int .u64 n] w fun e w' => e = .returned (U (rotr x m)) ∧ w' = w := by
  have h2 : rotr x m = x >>> n.toNat ||| x <<< (32 - n).toNat := by
    have e1 : n.toNat = m := by omega
    have e2 : (32 - n).toNat = 32 - m := by omega
    rw [e1, e2]; rfl
  rw [h2]
  have a0 : 0 ≤ n := by omega
  have a1 : n ≤ 32 := by omega
  have a2 : 0 ≤ 32 - n := by omega
  have a3 : 32 - n ≤ 32 := by omega
  clear h2 hn h0 h1
  go_enter Tryd.func33, Tryd.ntmps33
  go_wp2
  go_ret
  exact ⟨rfl, rfl⟩
theorem choose_any (x y z : Word) (w : World) :
    Calls Tryd.prog 36 #[U x, U y, U z] w fun e w' => e = .returned (U (ch x y z)) ∧ w' = w := by
  go_enter Tryd.func36, Tryd.ntmps36
  go_wp2
  go_ret
  exact ⟨rfl, rfl⟩
theorem majority_any (x y z : Word) (w : World) :
    Calls Tryd.prog 38 #[U x, U y, U z] w fun e w' => e = .returned (U (maj x y z)) ∧ w' = w := by
  go_enter Tryd.func38, Tryd.ntmps38
  go_wp2
  go_ret
  exact ⟨rfl, rfl⟩
theorem bigSum1_any (x : Word) (w : World) :
    Calls Tryd.prog 35 #[U x] w fun e w' => e = .returned (U (bs1 x)) ∧ w' = w := by
  go_enter Tryd.func35, Tryd.ntmps35
  go_wp2_with fail
  refine (turn_any x _ 6 rfl (by decide) (by decide) _).mono ?_; rintro e w' ⟨rfl, rfl⟩
  go_wp2_with fail
  refine (turn_any x _ 11 rfl (by decide) (by decide) _).mono ?_; rintro e w' ⟨rfl, rfl⟩
  go_wp2_with fail
  refine (turn_any x _ 25 rfl (by decide) (by decide) _).mono ?_; rintro e w' ⟨rfl, rfl⟩
  go_wp2
  go_ret
  exact ⟨rfl, rfl⟩
theorem bigSum0_any (x : Word) (w : World) :
    Calls Tryd.prog 37 #[U x] w fun e w' => e = .returned (U (bs0 x)) ∧ w' = w := by
  go_enter Tryd.func37, Tryd.ntmps37
  go_wp2_with fail
  refine (turn_any x _ 2 rfl (by decide) (by decide) _).mono ?_; rintro e w' ⟨rfl, rfl⟩
  go_wp2_with fail
  refine (turn_any x _ 13 rfl (by decide) (by decide) _).mono ?_; rintro e w' ⟨rfl, rfl⟩
  go_wp2_with fail
  refine (turn_any x _ 22 rfl (by decide) (by decide) _).mono ?_; rintro e w' ⟨rfl, rfl⟩
  go_wp2
  go_ret
  exact ⟨rfl, rfl⟩
theorem smallSum0_any (x : Word) (w : World) :
    Calls Tryd.prog 42 #[U x] w fun e w' => e = .returned (U (ss0 x)) ∧ w' = w := by
  go_enter Tryd.func42, Tryd.ntmps42
  go_wp2_with fail
  refine (turn_any x _ 7 rfl (by decide) (by decide) _).mono ?_; rintro e w' ⟨rfl, rfl⟩
  go_wp2_with fail
  refine (turn_any x _ 18 rfl (by decide) (by decide) _).mono ?_; rintro e w' ⟨rfl, rfl⟩
  go_wp2
  go_ret
  exact ⟨rfl, rfl⟩
theorem smallSum1_any (x : Word) (w : World) :
    Calls Tryd.prog 41 #[U x] w fun e w' => e = .returned (U (ss1 x)) ∧ w' = w := by
  go_enter Tryd.func41, Tryd.ntmps41
  go_wp2_with fail
  refine (turn_any x _ 17 rfl (by decide) (by decide) _).mono ?_; rintro e w' ⟨rfl, rfl⟩
  go_wp2_with fail
  refine (turn_any x _ 19 rfl (by decide) (by decide) _).mono ?_; rintro e w' ⟨rfl, rfl⟩
  go_wp2
  go_ret
  exact ⟨rfl, rfl⟩
end Go.Proofs.YtpgckbjcacagdaaDoor
