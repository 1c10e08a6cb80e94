/- A struct and a value handed back; the reference's small functions; few. -/
import Derived.Test.YthinldcblbgdnaaDoorInside
namespace Go.Proofs.YthinldcblbgdnaaDoor
open Go.RowKit
theorem results_cell_tmp {P : Program} {fn : Func} {p q : Tmp} {ty : TypeId} (h : fn.results = #[.cell p ty, .tmp q]) {tmps : Array Value} {w : World} {b : Nat} {l : List Value} {t : TypeId} {d : TypeDesc} {v : Value}
    (hp : tmps.getD p undef = .pointer (some ⟨b, 0, none⟩)) (hq : tmps.getD q undef = v) (hb : Blk w b l t)
    (hu : P.underlying ty = some d) (hd : d.isRow = true) (hi : (P.info? ty).map (·.size) = some l.length) :
    (results fn tmps).run P w = .ok (.tuple #[.agg l.toArray, v]) w := by
  have hl := run_loadVar_mid (P := P) w b 0 ty l d hb.range hu hd hi
  have ha : (asAddr (tmps[p]?.getD undef)).run P w = .ok ⟨b, 0, none⟩ w := by
    have : tmps[p]?.getD undef = .pointer (some ⟨b, 0, none⟩) := by simpa using hp
    rw [this]; rfl
  have hv : tmps[q]?.getD undef = v := by simpa using hq
  simp only [results, h]
  simp [Sem.run_bind, Result.andThen, ha, hl, hv]
set_option maxHeartbeats 1000000 in
theorem refSide_any (n : Int) (w : World) : Calls Tryd.prog 38 #[.int .i64 n] w fun e w' => e = .returned (.bool (isSide n)) ∧ w' = w := by
  unfold isSide
  by_cases h1 : 4 ≤ n
  · by_cases h2 : n ≤ 20
    · go_enter Tryd.func38, Tryd.ntmps38
      go_wp2
      go_ret
      simp [h1, h2]
    · have g2 : (n ≤ 20) = False := by simp [h2]
      go_enter Tryd.func38, Tryd.ntmps38
      go_wp2
      go_ret
      simp
  · have g1 : (4 ≤ n) = False := by simp [h1]
    go_enter Tryd.func38, Tryd.ntmps38
    go_wp2
    go_ret
    simp
set_option maxHeartbeats 1000000 in
theorem refMeas_any (x y : Int) (w : World) : Calls Tryd.prog 46 #[C x y] w fun e w' => Out w (.bool (meas x y)) e w' := by
  unfold meas C Out
  by_cases h1 : -1000 ≤ x
  · by_cases h2 : x ≤ 1000
    · by_cases h3 : -1000 ≤ y
      · go_enter Tryd.func46, Tryd.ntmps46
        go_wp2
        go_ret
        exact ⟨by simp [h1, h2, h3], (Below.refl _ _).alloc (Nat.le_refl _) _⟩
      · have g3 : (-1000 ≤ y) = False := by simp; omega
        go_enter Tryd.func46, Tryd.ntmps46
        go_wp2
        go_ret
        exact ⟨by simp, (Below.refl _ _).alloc (Nat.le_refl _) _⟩
    · have g2 : (x ≤ 1000) = False := by simp; omega
      go_enter Tryd.func46, Tryd.ntmps46
      go_wp2
      go_ret
      exact ⟨by simp, (Below.refl _ _).alloc (Nat.le_refl _) _⟩
  · have g1 : (-1000 ≤ x) = False := by simp; omega
    go_enter Tryd.func46, Tryd.ntmps46
    go_wp2
    go_ret
    exact ⟨by simp, (Below.refl _ _).alloc (Nat.le_refl _) _⟩
set_option maxHeartbeats 1000000 in
theorem refFloor_any (a b : Int) (ha : -100000000 ≤ a ∧ a ≤ 100000000) (hb : 0 < b) (hb2 : b ≤ 100000000) (w : World) : Calls Tryd.prog 49 #[.int .i64 a, .int .i64 b] w fun e w' => e = .returned (.int .i64 (a / b)) ∧ w' = w := by
  rw [floor_eq hb]
  have hb0 : b ≠ 0 := by omega
  have hq : -100000000 ≤ a.tdiv b ∧ a.tdiv b ≤ 100000000 := by
    have h1 := Int.natAbs_tdiv_le_natAbs a b
    omega
  have hr : -100000000 ≤ a.tmod b ∧ a.tmod b ≤ 100000000 := by
    have h1 := Int.natAbs_tmod a b
    have h2 := Nat.mod_le a.natAbs b.natAbs
    omega
  have q1 := hq.1
  have q2 := hq.2
  by_cases h : a.tmod b < 0
  · rw [if_pos h]
    go_enter Tryd.func49, Tryd.ntmps49
    go_wp2
    go_ret
    exact ⟨rfl, rfl⟩
  · have h' : (a.tmod b < 0) = False := by simp; omega
    rw [if_neg h]
    go_enter Tryd.func49, Tryd.ntmps49
    go_wp2
    go_ret
    exact ⟨rfl, rfl⟩
set_option maxHeartbeats 1000000 in
theorem refHolds_any (m : Mp) (s t : Value) (x y : Int) (w : World) : Calls Tryd.prog 40 #[.agg #[.int .i64 m.W, .int .i64 m.H, s, t], C x y] w fun e w' => Out w (.bool (holds m x y)) e w' := by
  obtain ⟨a, b, ts, os⟩ := m
  have hbe : Hid (∀ o1 o2, Below w.heap.size w ((w.alloc o1).alloc o2)) := fun o1 o2 => ((Below.refl _ _).alloc (Nat.le_refl _) _).alloc (by simp) _
  unfold holds C Out
  simp only
  by_cases h1 : 0 ≤ x
  · by_cases h2 : x < a
    · by_cases h3 : 0 ≤ y
      · go_enter Tryd.func40, Tryd.ntmps40
        go_wp2
        go_ret
        exact ⟨by simp [h1, h2, h3], hbe.out _ _⟩
      · have g3 : (0 ≤ y) = False := by simp; omega
        go_enter Tryd.func40, Tryd.ntmps40
        go_wp2
        go_ret
        exact ⟨by simp, hbe.out _ _⟩
    · have g2 : (x < a) = False := by simp; omega
      go_enter Tryd.func40, Tryd.ntmps40
      go_wp2
      go_ret
      exact ⟨by simp, hbe.out _ _⟩
  · have g1 : (0 ≤ x) = False := by simp; omega
    go_enter Tryd.func40, Tryd.ntmps40
    go_wp2
    go_ret
    exact ⟨by simp, hbe.out _ _⟩
set_option maxHeartbeats 1000000 in
theorem few_any (a b : Int) (p q : Option Addr) (M N c d : Nat) (w : World) : Calls Tryd.prog 9 #[.agg #[.int .i64 a, .int .i64 b, .slice p M c, .slice q N d]] w fun e w' => Out w (.bool (decide (M ≤ 1000) && decide (N ≤ 1000))) e w' := by
  unfold Out
  by_cases h1 : M ≤ 1000
  · have g1 : (M : Int) ≤ 1000 := by omega
    go_enter Tryd.func9, Tryd.ntmps9
    go_wp2
    go_ret
    exact ⟨by simp [h1]; omega, (Below.refl _ _).alloc (Nat.le_refl _) _⟩
  · have g1 : ((M : Int) ≤ 1000) = False := by simp; omega
    go_enter Tryd.func9, Tryd.ntmps9
    go_wp2
    go_ret
    exact ⟨by simp [h1], (Below.refl _ _).alloc (Nat.le_refl _) _⟩
end Go.Proofs.YthinldcblbgdnaaDoor
