/- The walk of the law GridLines. -/
import Derived.Test.YthinldcblbgdnaaDoorLines
import Derived.Test.YthinldcblbgdnaaDoorRead
import Derived.Test.YthinldcblbgdnaaDoorNx
namespace Go.Proofs.YthinldcblbgdnaaDoor
open Go.RowKit
/-- The law answers true, and what lay there is as it was. -/
def OutT (w : World) (e : Ending) (w' : World) : Prop := e = .returned (.bool true) ∧ Below w.heap.size w w'
theorem apt_comm (a b : Int) : apt a b = apt b a := by unfold apt; omega
theorem dist_comm (ax ay bx by_ : Int) : dist ax ay bx by_ = dist bx by_ ax ay := by
  unfold dist
  rw [Bool.and_comm, apt_comm ax bx, apt_comm ay by_]
theorem btw_bound {a b k n : Int} (ha : -1000 ≤ a ∧ a ≤ 1000) (hb : -1000 ≤ b ∧ b ≤ 1000) (hk : 0 ≤ k ∧ k ≤ n) (hn : 0 ≤ n ∧ n ≤ 2000) : -9000000 ≤ btw a b k n ∧ btw a b k n ≤ 9000000 := by
  unfold btw
  rcases Int.lt_or_eq_of_le hn.1 with h | h
  · have m := mul_bound (k := k) (d := b - a) (by omega) (by omega)
    have q := ediv_bound (x := 2 * k * (b - a) + n) (d := 2 * n) (by omega) (by omega)
    omega
  · subst h
    simp; omega
/-- What is said of the cells of a line. -/
theorem line_facts {ax ay bx by_ : Int} (hm : (meas ax ay && meas bx by_) = true) : ∃ n : Nat, n ≤ 2000 ∧ far ax ay bx by_ = (n : Int) ∧ cellAt ax ay bx by_ 0 = (ax, ay) ∧ cellAt ax ay bx by_ n = (bx, by_) ∧
    (∀ k : Nat, k ≤ n → -9000000 ≤ (cellAt ax ay bx by_ k).1 ∧ (cellAt ax ay bx by_ k).1 ≤ 9000000 ∧ -9000000 ≤ (cellAt ax ay bx by_ k).2 ∧ (cellAt ax ay bx by_ k).2 ≤ 9000000) ∧
    (∀ k : Nat, k + 1 ≤ n → -1 ≤ (cellAt ax ay bx by_ (k + 1)).1 - (cellAt ax ay bx by_ k).1 ∧ (cellAt ax ay bx by_ (k + 1)).1 - (cellAt ax ay bx by_ k).1 ≤ 1 ∧ -1 ≤ (cellAt ax ay bx by_ (k + 1)).2 - (cellAt ax ay bx by_ k).2 ∧ (cellAt ax ay bx by_ (k + 1)).2 - (cellAt ax ay bx by_ k).2 ≤ 1 ∧ ¬ ((cellAt ax ay bx by_ (k + 1)).1 - (cellAt ax ay bx by_ k).1 = 0 ∧ (cellAt ax ay bx by_ (k + 1)).2 - (cellAt ax ay bx by_ k).2 = 0)) ∧
    (n : Int) ≤ dist ax ay bx by_ ∧ dist ax ay bx by_ ≤ 2 * (n : Int) := by
  rw [Bool.and_eq_true] at hm
  have ka := meas_of hm.1
  have kb := meas_of hm.2
  have hX : 0 ≤ apt ax bx ∧ apt ax bx ≤ 2000 ∧ (apt ax bx = bx - ax ∨ apt ax bx = ax - bx) ∧ bx - ax ≤ apt ax bx ∧ ax - bx ≤ apt ax bx := by unfold apt; omega
  have hY : 0 ≤ apt ay by_ ∧ apt ay by_ ≤ 2000 ∧ (apt ay by_ = by_ - ay ∨ apt ay by_ = ay - by_) ∧ by_ - ay ≤ apt ay by_ ∧ ay - by_ ≤ apt ay by_ := by unfold apt; omega
  have hd : dist ax ay bx by_ = apt ax bx + apt ay by_ := by rw [dist, hm.1, hm.2]; rfl
  obtain ⟨n, hn⟩ : ∃ n : Nat, far ax ay bx by_ = (n : Int) := ⟨(far ax ay bx by_).toNat, by unfold far; omega⟩
  have hnf : (n : Int) = max (apt ax bx) (apt ay by_) := hn.symm
  have hcell : ∀ k : Nat, cellAt ax ay bx by_ k = (btw ax bx k n, btw ay by_ k n) := fun k => by rw [cellAt, hn]
  refine ⟨n, by omega, hn, ?_, ?_, fun k hk => ?_, fun k hk => ?_, by rw [hd]; omega, by rw [hd]; omega⟩
  · rw [hcell]
    rcases Nat.eq_zero_or_pos n with h | h
    · subst h; simp [btw]
    · have h1 := btw_start (a := ax) (b := bx) (n := (n : Int)) (by omega)
      have h2 := btw_start (a := ay) (b := by_) (n := (n : Int)) (by omega)
      simp only [Int.natCast_zero] at *
      rw [h1, h2]
  · rw [hcell]
    rcases Nat.eq_zero_or_pos n with h | h
    · subst h
      have : ax = bx ∧ ay = by_ := by omega
      simp [btw, this.1, this.2]
    · rw [btw_end (by omega), btw_end (by omega)]
  · rw [hcell]
    have h1 := btw_bound (a := ax) (b := bx) (k := k) (n := n) ⟨ka.1, ka.2.1⟩ ⟨kb.1, kb.2.1⟩ (by omega) (by omega)
    have h2 := btw_bound (a := ay) (b := by_) (k := k) (n := n) ⟨ka.2.2.1, ka.2.2.2⟩ ⟨kb.2.2.1, kb.2.2.2⟩ (by omega) (by omega)
    exact ⟨h1.1, h1.2, h2.1, h2.2⟩
  · rw [hcell, hcell]
    have h0 : (0 : Int) < n := by omega
    have h1 := btw_step (a := ax) (b := bx) (k := k) (n := n) h0 (by omega)
    have h2 := btw_step (a := ay) (b := by_) (k := k) (n := n) h0 (by omega)
    simp only [Int.natCast_add, Int.cast_ofNat_Int] at *
    refine ⟨h1.1, h1.2, h2.1, h2.2, fun hz => ?_⟩
    rcases Int.le_total (apt ax bx) (apt ay by_) with h | h
    · have hh : by_ - ay = n ∨ ay - by_ = n := by omega
      have e1 := btw_whole (k := (k : Int) + 1) h0 hh
      have e2 := btw_whole (k := (k : Int)) h0 hh
      rw [e1, e2] at hz
      split at hz <;> omega
    · have hh : bx - ax = n ∨ ax - bx = n := by omega
      have e1 := btw_whole (k := (k : Int) + 1) h0 hh
      have e2 := btw_whole (k := (k : Int)) h0 hh
      rw [e1, e2] at hz
      split at hz <;> omega
set_option maxRecDepth 20000 in
set_option maxHeartbeats 4000000 in
theorem lines_out (ax ay bx by_ : Int) (w : World) (hx : Max w) (hm : (meas ax ay && meas bx by_) = false) : Calls Tryd.prog 7 #[C ax ay, C bx by_] w fun e w' => OutT w e w' := by
  have h8 : Hid (∀ W, Max W → Calls Tryd.prog 8 #[] W fun e w' => Out W (.bool true) e w') := awake_any
  have h26 : Hid (∀ W, Calls Tryd.prog 26 #[C ax ay, C bx by_] W fun e w' => OutLine W [] e w') := fun W => by
    have := line_any ax ay bx by_ W
    rwa [lineM, hm, if_neg (by simp)] at this
  have h24 : Hid (∀ W, Calls Tryd.prog 24 #[C ax ay, C bx by_] W fun e w' => Out W (.int .i64 1000000) e w') := fun W => by
    have := dist_any ax ay bx by_ W
    rwa [dist, hm, if_neg (by simp)] at this
  have HX := hid hx
  have HM := hid hm
  clear hm
  unfold OutT
  unfold C at *
  go_enter Tryd.func7, Tryd.ntmps7
  go_upto_region 1 with (fail)
  obtain ⟨W, hW⟩ : ∃ W, W = (w.alloc (.cells #[Value.int .i64 ax, .int .i64 ay] 35)).alloc (.cells #[Value.int .i64 bx, .int .i64 by_] 35) := ⟨_, rfl⟩
  obtain ⟨B, hB⟩ : ∃ B, B = w.heap.size := ⟨_, rfl⟩
  rw [← hW, ← hB]
  obtain ⟨hk, hbe⟩ := two_boxes w ax ay bx by_ W B hW hB
  obtain ⟨a0, a1, a2, a3⟩ := hk W (Below.refl _ _)
  have HK := hid hk
  have HBE := hid hbe
  clear hW hB hk hbe hx
  go_wp2_with fail
  refine Calls.mono (h8.out _ (Below.max (HBE.out W (Below.refl _ _)) HX.out)) ?_
  rintro e w1 ⟨rfl, hb1⟩
  obtain ⟨b0, b1, b2, b3⟩ := HK.out w1 hb1
  have HB1 := hid hb1
  clear hb1 a0 a1 a2 a3
  go_wp2_with fail
  refine Calls.mono (h26.out _) ?_
  rintro e w2 ⟨v, rfl, hv, hb2⟩
  obtain ⟨p, c, rfl, -⟩ := hv
  have HB2 := hid (HB1.out.trans (hb2.mono HB1.out.size))
  obtain ⟨c0, c1, c2, c3⟩ := HK.out w2 HB2.out
  clear hb2 b0 b1 b2 b3 HB1
  simp only [List.length_nil]
  have hcase : (ax < -1000) ∨ ((ax < -1000) = False ∧ 1000 < ax) ∨ ((ax < -1000) = False ∧ (1000 < ax) = False ∧ ay < -1000) ∨ ((ax < -1000) = False ∧ (1000 < ax) = False ∧ (ay < -1000) = False ∧ 1000 < ay) ∨ ((ax < -1000) = False ∧ (1000 < ax) = False ∧ (ay < -1000) = False ∧ (1000 < ay) = False ∧ bx < -1000) ∨ ((ax < -1000) = False ∧ (1000 < ax) = False ∧ (ay < -1000) = False ∧ (1000 < ay) = False ∧ (bx < -1000) = False ∧ 1000 < bx) ∨ ((ax < -1000) = False ∧ (1000 < ax) = False ∧ (ay < -1000) = False ∧ (1000 < ay) = False ∧ (bx < -1000) = False ∧ (1000 < bx) = False ∧ by_ < -1000) ∨ ((ax < -1000) = False ∧ (1000 < ax) = False ∧ (ay < -1000) = False ∧ (1000 < ay) = False ∧ (bx < -1000) = False ∧ (1000 < bx) = False ∧ (by_ < -1000) = False ∧ 1000 < by_) := by
    have hm := HM.out
    simp only [meas, Bool.and_eq_false_iff, decide_eq_false_iff_not, eq_iff_iff, iff_false] at hm ⊢
    omega
  clear HM
  rcases hcase with g1 | ⟨g1, g2⟩ | ⟨g1, g2, g3⟩ | ⟨g1, g2, g3, g4⟩ | ⟨g1, g2, g3, g4, g5⟩ | ⟨g1, g2, g3, g4, g5, g6⟩ | ⟨g1, g2, g3, g4, g5, g6, g7⟩ | ⟨g1, g2, g3, g4, g5, g6, g7, g8⟩
  all_goals
    go_wp2_with fail
    refine Calls.mono (h24.out _) ?_
    rintro e w3 ⟨rfl, hb3⟩
    have HB3 := hid (HB2.out.trans (hb3.mono HB2.out.size))
    clear hb3
    go_wp2
    go_ret
    exact ⟨rfl, HBE.out _ HB3.out⟩
end Go.Proofs.YthinldcblbgdnaaDoor
