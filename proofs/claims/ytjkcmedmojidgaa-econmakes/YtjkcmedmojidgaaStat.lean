/- Kinds and digging: Stat 9, the reference's 10, Dig 11 and 12, isTrained 24. -/
import Derived.Test.YtjkcmedmojidgaaApart
namespace Go.Proofs.Ytjkcmedmojidgaa
open Go.RowKit
/-- A number of a kind. -/
def st (k a b c d : Int) : Int := if k = 1 then a else if k = 2 then b else if k = 3 then c else if k = 4 then d else 0
def cost (k : Int) : Int := st k 0 20 40 30
def turns (k : Int) : Int := st k 0 2 3 2
def statE (k : Int) : Int := if 1 ≤ k ∧ k ≤ 4 then 0 else 3
def statV (k : Int) : Value := .agg #[.int .i64 (cost k), .int .i64 (turns k), .int .i64 (st k 60 10 25 12), .int .i64 (st k 4 1 6 2), .int .i64 (st k 3 1 2 1), .int .i64 (st k 5 3 4 6)]
theorem size24 : (Try.prog.info? 24).map (·.size) = some 6 := by kernel_rfl
theorem size28 : (Try.prog.info? 28).map (·.size) = some 6 := by kernel_rfl
set_option maxRecDepth 20000 in
set_option maxHeartbeats 2000000 in
theorem stat_any (k : Int) (w : World) : Calls Try.prog 9 #[.int .i64 k] w fun e w' => Out w (.tuple #[statV k, .int .i64 (statE k)]) e w' := by
  unfold Out
  by_cases h1 : k = 1
  · subst h1
    go_enter Try.func9, Try.ntmps9
    go_wp2
    exact bodyPost_ret (results_cell_tmp Try.results9 rfl rfl (Blk.new w [.int .i64 0, .int .i64 0, .int .i64 60, .int .i64 4, .int .i64 3, .int .i64 5] 24) Try.underlying24 rfl size24) rfl ⟨rfl, (Below.refl _ _).alloc (Nat.le_refl _) _⟩
  · by_cases h2 : k = 2
    · subst h2
      go_enter Try.func9, Try.ntmps9
      go_wp2
      exact bodyPost_ret (results_cell_tmp Try.results9 rfl rfl (Blk.new w [.int .i64 20, .int .i64 2, .int .i64 10, .int .i64 1, .int .i64 1, .int .i64 3] 24) Try.underlying24 rfl size24) rfl ⟨rfl, (Below.refl _ _).alloc (Nat.le_refl _) _⟩
    · by_cases h3 : k = 3
      · subst h3
        go_enter Try.func9, Try.ntmps9
        go_wp2
        exact bodyPost_ret (results_cell_tmp Try.results9 rfl rfl (Blk.new w [.int .i64 40, .int .i64 3, .int .i64 25, .int .i64 6, .int .i64 2, .int .i64 4] 24) Try.underlying24 rfl size24) rfl ⟨rfl, (Below.refl _ _).alloc (Nat.le_refl _) _⟩
      · by_cases h4 : k = 4
        · subst h4
          go_enter Try.func9, Try.ntmps9
          go_wp2
          exact bodyPost_ret (results_cell_tmp Try.results9 rfl rfl (Blk.new w [.int .i64 30, .int .i64 2, .int .i64 12, .int .i64 2, .int .i64 1, .int .i64 6] 24) Try.underlying24 rfl size24) rfl ⟨rfl, (Below.refl _ _).alloc (Nat.le_refl _) _⟩
        · have g1 : (k == 1) = false := by simpa using h1
          have g2 : (k == 2) = false := by simpa using h2
          have g3 : (k == 3) = false := by simpa using h3
          have g4 : (k == 4) = false := by simpa using h4
          have e : statE k = 3 := by unfold statE; rw [if_neg (by omega)]
          have z : ∀ a b c d, st k a b c d = 0 := fun a b c d => by unfold st; rw [if_neg h1, if_neg h2, if_neg h3, if_neg h4]
          unfold statV cost turns
          simp only [z]
          rw [e]
          clear z e h1 h2 h3 h4
          go_enter Try.func9, Try.ntmps9
          go_wp2
          exact bodyPost_ret (results_cell_tmp Try.results9 rfl rfl (Blk.new w [.int .i64 0, .int .i64 0, .int .i64 0, .int .i64 0, .int .i64 0, .int .i64 0] 24) Try.underlying24 rfl size24) rfl ⟨rfl, (Below.refl _ _).alloc (Nat.le_refl _) _⟩
set_option maxRecDepth 20000 in
set_option maxHeartbeats 2000000 in
theorem refStat_any (k : Int) (w : World) : Calls Try.prog 10 #[.int .i64 k] w fun e w' => Out w (.tuple #[statV k, .int .i64 (statE k)]) e w' := by
  unfold Out
  by_cases h1 : k = 1
  · subst h1
    go_enter Try.func10, Try.ntmps10
    go_wp2
    exact bodyPost_ret (results_cell_tmp Try.results10 rfl rfl (Blk.new w [.int .i64 0, .int .i64 0, .int .i64 60, .int .i64 4, .int .i64 3, .int .i64 5] 28) Try.underlying28 rfl size28) rfl ⟨rfl, (Below.refl _ _).alloc (Nat.le_refl _) _⟩
  · by_cases h2 : k = 2
    · subst h2
      go_enter Try.func10, Try.ntmps10
      go_wp2
      exact bodyPost_ret (results_cell_tmp Try.results10 rfl rfl (Blk.new w [.int .i64 20, .int .i64 2, .int .i64 10, .int .i64 1, .int .i64 1, .int .i64 3] 28) Try.underlying28 rfl size28) rfl ⟨rfl, (Below.refl _ _).alloc (Nat.le_refl _) _⟩
    · by_cases h3 : k = 3
      · subst h3
        go_enter Try.func10, Try.ntmps10
        go_wp2
        exact bodyPost_ret (results_cell_tmp Try.results10 rfl rfl (Blk.new w [.int .i64 40, .int .i64 3, .int .i64 25, .int .i64 6, .int .i64 2, .int .i64 4] 28) Try.underlying28 rfl size28) rfl ⟨rfl, (Below.refl _ _).alloc (Nat.le_refl _) _⟩
      · by_cases h4 : k = 4
        · subst h4
          go_enter Try.func10, Try.ntmps10
          go_wp2
          exact bodyPost_ret (results_cell_tmp Try.results10 rfl rfl (Blk.new w [.int .i64 30, .int .i64 2, .int .i64 12, .int .i64 2, .int .i64 1, .int .i64 6] 28) Try.underlying28 rfl size28) rfl ⟨rfl, (Below.refl _ _).alloc (Nat.le_refl _) _⟩
        · have g1 : (k == 1) = false := by simpa using h1
          have g2 : (k == 2) = false := by simpa using h2
          have g3 : (k == 3) = false := by simpa using h3
          have g4 : (k == 4) = false := by simpa using h4
          have e : statE k = 3 := by unfold statE; rw [if_neg (by omega)]
          have z : ∀ a b c d, st k a b c d = 0 := fun a b c d => by unfold st; rw [if_neg h1, if_neg h2, if_neg h3, if_neg h4]
          unfold statV cost turns
          simp only [z]
          rw [e]
          clear z e h1 h2 h3 h4
          go_enter Try.func10, Try.ntmps10
          go_wp2
          exact bodyPost_ret (results_cell_tmp Try.results10 rfl rfl (Blk.new w [.int .i64 0, .int .i64 0, .int .i64 0, .int .i64 0, .int .i64 0, .int .i64 0] 28) Try.underlying28 rfl size28) rfl ⟨rfl, (Below.refl _ _).alloc (Nat.le_refl _) _⟩
def mn2 (x y : Int) : Int := min x y
def mx2 (x y : Int) : Int := max x y
def mn3 (x y z : Int) : Int := min (min x y) z
theorem run_mn2 {P : Program} {w : World} (ts : Array TypeId) (t : TypeId) (x y : Int) : (Builtin.min_ ts t #[.int .i64 x, .int .i64 y]).run P w = .ok (.int .i64 (mn2 x y)) w := by
  have e : (if y < x then y else x) = mn2 x y := by unfold mn2; split <;> omega
  rw [← e]
  simp [Builtin.min_, Builtin.min2]
theorem run_mx2 {P : Program} {w : World} (ts : Array TypeId) (t : TypeId) (x y : Int) : (Builtin.max_ ts t #[.int .i64 x, .int .i64 y]).run P w = .ok (.int .i64 (mx2 x y)) w := by
  have e : (if y > x then y else x) = mx2 x y := by unfold mx2; split <;> omega
  rw [← e]
  simp [Builtin.max_, Builtin.max2]
theorem run_mn3 {P : Program} {w : World} (ts : Array TypeId) (t : TypeId) (x y z : Int) : (Builtin.min_ ts t #[.int .i64 x, .int .i64 y, .int .i64 z]).run P w = .ok (.int .i64 (mn3 x y z)) w := by
  have e : (if z < (if y < x then y else x) then z else (if y < x then y else x)) = mn3 x y z := by unfold mn3; split <;> split <;> omega
  rw [← e]
  simp [Builtin.min_, Builtin.min2]
def ld (k : Int) : Int := mn2 (mx2 k 0) 10
def dug (k o : Int) : Int := mn3 5 (mx2 o 0) (10 - ld k)
def digV (k o : Int) : Value := .tuple #[.int .i64 (ld k + dug k o), .int .i64 (mx2 o 0 - dug k o)]
section
attribute [local go_sem ↓] run_mn2 run_mx2 run_mn3
set_option maxRecDepth 20000 in
set_option maxHeartbeats 2000000 in
theorem dig_any (k o : Int) (ho : I64 o) (w : World) : Calls Try.prog 11 #[.int .i64 k, .int .i64 o] w fun e w' => e = .returned (digV k o) ∧ w' = w := by
  have b1 : 0 ≤ ld k ∧ ld k ≤ 10 := by unfold ld mn2 mx2; omega
  have b2 : 0 ≤ mx2 o 0 ∧ mx2 o 0 ≤ 9223372036854775807 := by unfold mx2; unfold I64 at ho; omega
  have b3 : 0 ≤ dug k o ∧ dug k o ≤ 5 ∧ dug k o ≤ mx2 o 0 ∧ dug k o ≤ 10 - ld k := by
    unfold dug mn3
    omega
  have e3' : mn3 5 (10 - ld k) (mx2 o 0) = dug k o := by unfold dug mn3; omega
  have e1 : mn2 (mx2 k 0) 10 = ld k := rfl
  have e3 : mn3 5 (mx2 o 0) (10 - ld k) = dug k o := rfl
  unfold digV
  generalize ld k = L at *
  generalize eO : mx2 o 0 = O at *
  generalize dug k o = D at *
  obtain ⟨b11, b12⟩ := b1
  obtain ⟨b21, b22⟩ := b2
  obtain ⟨b31, b32, b33, b34⟩ := b3
  clear ho
  go_enter Try.func11, Try.ntmps11
  go_wp2
  go_ret2
  exact ⟨rfl, rfl⟩
set_option maxRecDepth 20000 in
set_option maxHeartbeats 2000000 in
theorem refDig_any (k o : Int) (ho : I64 o) (w : World) : Calls Try.prog 12 #[.int .i64 k, .int .i64 o] w fun e w' => e = .returned (digV k o) ∧ w' = w := by
  have b1 : 0 ≤ ld k ∧ ld k ≤ 10 := by unfold ld mn2 mx2; omega
  have b2 : 0 ≤ mx2 o 0 ∧ mx2 o 0 ≤ 9223372036854775807 := by unfold mx2; unfold I64 at ho; omega
  have b3 : 0 ≤ dug k o ∧ dug k o ≤ 5 ∧ dug k o ≤ mx2 o 0 ∧ dug k o ≤ 10 - ld k := by
    unfold dug mn3
    omega
  have e3' : mn3 5 (10 - ld k) (mx2 o 0) = dug k o := by unfold dug mn3; omega
  have e1 : mn2 (mx2 k 0) 10 = ld k := rfl
  have e3 : mn3 5 (mx2 o 0) (10 - ld k) = dug k o := rfl
  unfold digV
  generalize ld k = L at *
  generalize eO : mx2 o 0 = O at *
  generalize dug k o = D at *
  obtain ⟨b11, b12⟩ := b1
  obtain ⟨b21, b22⟩ := b2
  obtain ⟨b31, b32, b33, b34⟩ := b3
  clear ho
  go_enter Try.func12, Try.ntmps12
  go_wp2
  go_ret2
  exact ⟨rfl, rfl⟩
end
def isTr (k : Int) : Bool := decide (2 ≤ k) && decide (k ≤ 4)
set_option maxRecDepth 20000 in
set_option maxHeartbeats 2000000 in
theorem isTrained_any (k : Int) (w : World) : Calls Try.prog 24 #[.int .i64 k] w fun e w' => e = .returned (.bool (isTr k)) ∧ w' = w := by
  by_cases h2 : k = 2
  · subst h2
    go_enter Try.func24, Try.ntmps24
    go_wp2
    go_ret
    exact ⟨rfl, rfl⟩
  · by_cases h3 : k = 3
    · subst h3
      go_enter Try.func24, Try.ntmps24
      go_wp2
      go_ret
      exact ⟨rfl, rfl⟩
    · by_cases h4 : k = 4
      · subst h4
        go_enter Try.func24, Try.ntmps24
        go_wp2
        go_ret
        exact ⟨rfl, rfl⟩
      · have g2 : (k == 2) = false := by simpa using h2
        have g3 : (k == 3) = false := by simpa using h3
        have g4 : (k == 4) = false := by simpa using h4
        have e : isTr k = false := by
          unfold isTr
          rw [Bool.and_eq_false_iff]
          by_cases h : k < 2
          · exact Or.inl (by simp; omega)
          · exact Or.inr (by simp; omega)
        rw [e]
        clear e h2 h3 h4
        go_enter Try.func24, Try.ntmps24
        go_wp2
        go_ret
        exact ⟨rfl, rfl⟩
end Go.Proofs.Ytjkcmedmojidgaa
