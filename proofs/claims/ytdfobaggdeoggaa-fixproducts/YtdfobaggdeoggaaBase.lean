/- Numbers that are held at the ends of int64. -/
import Derived.Test.YtdfobaggdeoggaaProg
import Derived.WalkKit
import Derived.Below
import Derived.Deep.MidRow
import Derived.Deep.WholeRow
import Derived.Deep.Draws
import Derived.RegionTactic
import Derived.BigQuiet
import Derived.Deep.QuietTactic
namespace Go.Proofs.Ytdfobaggdeoggaa
open Go.RowKit
/-- An exact number, held at the ends. -/
def hold (x : Int) : Int := if 9223372036854775807 < x then 9223372036854775807 else if x < -9223372036854775808 then -9223372036854775808 else x
theorem hold_in (x : Int) : -9223372036854775808 ≤ hold x ∧ hold x ≤ 9223372036854775807 := by
  unfold hold; (repeat' split) <;> omega
/-- A number of int64. -/
def I64 (n : Int) : Prop := -9223372036854775808 ≤ n ∧ n ≤ 9223372036854775807
/-- What a function that makes one number answers. -/
def OutI (w : World) (x : Int) (e : Ending) (w' : World) : Prop := e = .returned (.int .i64 x) ∧ Below w.heap.size w w'
theorem outI {w : World} {x y : Int} (h : x = y) : OutI w y (.returned (.int .i64 x)) w := by subst h; exact ⟨rfl, Below.refl _ _⟩
theorem tdiv_pos {n c : Int} (h : 0 ≤ n) : n.tdiv c = n / c := Int.tdiv_eq_ediv_of_nonneg h
theorem tmod_pos {n c : Int} (h : 0 ≤ n) : n.tmod c = n % c := Int.tmod_eq_emod_of_nonneg h
theorem tdiv_below {n c : Int} (h : n < 0) : n.tdiv c = -((-n) / c) := by
  have e : (-n).tdiv c = (-n) / c := Int.tdiv_eq_ediv_of_nonneg (by omega)
  rw [Int.neg_tdiv] at e
  omega
theorem tmod_below {n c : Int} (h : n < 0) : n.tmod c = -((-n) % c) := by
  have e : (-n).tmod c = (-n) % c := Int.tmod_eq_emod_of_nonneg (by omega)
  rw [Int.neg_tmod] at e
  omega
set_option maxHeartbeats 1000000 in
theorem of_any (n : Int) (hn : I64 n) (w : World) : Calls Try.prog 10 #[.int .i64 n] w fun e w' => OutI w (hold (n * 4294967296)) e w' := by
  obtain ⟨hn1, hn2⟩ := hn
  go_enter Try.func10, Try.ntmps10
  go_wp2
  all_goals (go_ret; refine outI ?_; unfold hold; (repeat' split) <;> omega)
set_option maxHeartbeats 1000000 in
theorem floor_any (n : Int) (hn : I64 n) (w : World) : Calls Try.prog 12 #[.int .i64 n] w fun e w' => OutI w (n / 4294967296) e w' := by
  obtain ⟨hn1, hn2⟩ := hn
  go_enter Try.func12, Try.ntmps12
  go_wp2
  go_ret
  exact outI rfl
set_option maxHeartbeats 1000000 in
theorem refFloor_any (n : Int) (hn : I64 n) (w : World) : Calls Try.prog 13 #[.int .i64 n] w fun e w' => OutI w (n / 4294967296) e w' := by
  obtain ⟨hn1, hn2⟩ := hn
  go_enter Try.func13, Try.ntmps13
  rcases Int.lt_or_le n 0 with hn | hn
  · have e1 : n.tdiv 4294967296 = -((-n) / 4294967296) := tdiv_below hn
    have e2 : n.tmod 4294967296 = -((-n) % 4294967296) := tmod_below hn
    have e3 : IntKind.i64.wrap (-((-n) / 4294967296) - 1) = -((-n) / 4294967296) - 1 := by rw [IntKind.wrap_i64]; omega
    go_wp2
    all_goals (go_ret; refine outI ?_; omega)
  · have e1 : n.tdiv 4294967296 = n / 4294967296 := tdiv_pos hn
    have e2 : n.tmod 4294967296 = n % 4294967296 := tmod_pos hn
    go_wp2
    all_goals (go_ret; refine outI ?_; omega)
set_option maxHeartbeats 1000000 in
theorem add_any (a b : Int) (ha : I64 a) (hb : I64 b) (w : World) : Calls Try.prog 14 #[.int .i64 a, .int .i64 b] w fun e w' => OutI w (hold (a + b)) e w' := by
  obtain ⟨ha1, ha2⟩ := ha
  obtain ⟨hb1, hb2⟩ := hb
  go_enter Try.func14, Try.ntmps14
  go_wp2
  all_goals (go_ret; refine outI ?_; unfold hold; (repeat' split) <;> omega)
set_option maxHeartbeats 1000000 in
theorem sub_any (a b : Int) (ha : I64 a) (hb : I64 b) (w : World) : Calls Try.prog 16 #[.int .i64 a, .int .i64 b] w fun e w' => OutI w (hold (a - b)) e w' := by
  obtain ⟨ha1, ha2⟩ := ha
  obtain ⟨hb1, hb2⟩ := hb
  go_enter Try.func16, Try.ntmps16
  go_wp2
  all_goals (go_ret; refine outI ?_; unfold hold; (repeat' split) <;> omega)
end Go.Proofs.Ytdfobaggdeoggaa
