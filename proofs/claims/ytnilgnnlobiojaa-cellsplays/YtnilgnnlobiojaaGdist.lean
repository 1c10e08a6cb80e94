/- Distances: the grid's and the reference's. -/
import Derived.Test.YtnilgnnlobiojaaSmall
import Derived.BigQuiet
namespace Go.Proofs.Ytnilgnnlobiojaa
open Go.RowKit
def meas (x y : Int) : Bool := decide (-1000 ≤ x) && decide (x ≤ 1000) && decide (-1000 ≤ y) && decide (y ≤ 1000)
def apt (a b : Int) : Int := max a b - min a b
theorem meas_of {x y : Int} (h : meas x y = true) : -1000 ≤ x ∧ x ≤ 1000 ∧ -1000 ≤ y ∧ y ≤ 1000 := by simpa [meas, and_assoc] using h
set_option maxHeartbeats 1000000 in
theorem meas_any (x y : Int) (w : World) : Calls Try.prog 48 #[C x y] w fun e w' => Out w (.bool (meas x y)) e w' := by
  unfold meas C Out
  by_cases h1 : -1000 ≤ x
  · by_cases h2 : x ≤ 1000
    · by_cases h3 : -1000 ≤ y
      · go_enter Try.func48, Try.ntmps48
        go_wp2
        go_ret
        exact ⟨by simp [h1, h2, h3], (Below.refl _ _).alloc (Nat.le_refl _) _⟩
      · have g3 : (-1000 ≤ y) = False := by simp; omega
        go_enter Try.func48, Try.ntmps48
        go_wp2
        go_ret
        exact ⟨by simp, (Below.refl _ _).alloc (Nat.le_refl _) _⟩
    · have g2 : (x ≤ 1000) = False := by simp; omega
      go_enter Try.func48, Try.ntmps48
      go_wp2
      go_ret
      exact ⟨by simp, (Below.refl _ _).alloc (Nat.le_refl _) _⟩
  · have g1 : (-1000 ≤ x) = False := by simp; omega
    go_enter Try.func48, Try.ntmps48
    go_wp2
    go_ret
    exact ⟨by simp, (Below.refl _ _).alloc (Nat.le_refl _) _⟩
set_option maxHeartbeats 1000000 in
theorem apart_any (a b : Int) (ha : -1000 ≤ a ∧ a ≤ 1000) (hb : -1000 ≤ b ∧ b ≤ 1000) (w : World) : Calls Try.prog 49 #[.int .i64 a, .int .i64 b] w fun e w' => e = .returned (.int .i64 (apt a b)) ∧ w' = w := by
  unfold apt
  have h1 : -9223372036854775808 ≤ max a b - min a b := by omega
  have h2 : max a b - min a b ≤ 9223372036854775807 := by omega
  go_enter Try.func49, Try.ntmps49
  go_wp2 <;> (go_ret; exact ⟨by simp <;> omega, rfl⟩)
theorem two_boxes (w : World) (a b c d : Int) (W : World) (B : Nat) (hW : W = (w.alloc (.cells #[Value.int .i64 a, .int .i64 b] 32)).alloc (.cells #[Value.int .i64 c, .int .i64 d] 32)) (hB : B = w.heap.size) :
    (∀ w', Below W.heap.size W w' → w'.cell? ⟨B, 0, none⟩ = some (.int .i64 a) ∧ w'.cell? ⟨B, 1, none⟩ = some (.int .i64 b) ∧ w'.cell? ⟨B + 1, 0, none⟩ = some (.int .i64 c) ∧ w'.cell? ⟨B + 1, 1, none⟩ = some (.int .i64 d)) ∧ (∀ w', Below W.heap.size W w' → Below w.heap.size w w') := by
  have hsz : W.heap.size = B + 2 := by rw [hW, hB]; simp
  have hbe : Below w.heap.size w W := by rw [hW]; exact ((Below.refl _ _).alloc (Nat.le_refl _) _).alloc (by simp) _
  have b1 : Blk W B [Value.int .i64 a, .int .i64 b] 32 := by rw [hW, hB]; exact (Blk.new _ _ _).alloc _
  have b2 : Blk W (B + 1) [Value.int .i64 c, .int .i64 d] 32 := by rw [hW]; exact Blk.new' _ _ _ _ (by simp [hB])
  refine ⟨fun w' h => ?_, fun w' h => hbe.trans (h.mono (by omega))⟩
  have c1 := b1.below h (by omega)
  have c2 := b2.below h (by omega)
  exact ⟨c1.cell 0, c1.cell 1, c2.cell 0, c2.cell 1⟩
def dist (ax ay bx by_ : Int) : Int := if meas ax ay && meas bx by_ then apt ax bx + apt ay by_ else 1000000
set_option maxHeartbeats 2000000 in
theorem dist_any (ax ay bx by_ : Int) (w : World) : Calls Try.prog 39 #[C ax ay, C bx by_] w fun e w' => Out w (.int .i64 (dist ax ay bx by_)) e w' := by
  have h44 : Hid (∀ x y W, Calls Try.prog 48 #[C x y] W fun e w' => Out W (.bool (meas x y)) e w') := meas_any
  have h45 : Hid (∀ (a b : Int) (_ : -1000 ≤ a ∧ a ≤ 1000) (_ : -1000 ≤ b ∧ b ≤ 1000) W, Calls Try.prog 49 #[.int .i64 a, .int .i64 b] W fun e w' => e = .returned (.int .i64 (apt a b)) ∧ w' = W) := apart_any
  unfold dist
  rcases Bool.eq_false_or_eq_true (meas ax ay) with ha | ha
  · rcases Bool.eq_false_or_eq_true (meas bx by_) with hb | hb
    · have ka := meas_of ha
      have kb := meas_of hb
      have h1 := h45.out ax bx ⟨ka.1, ka.2.1⟩ ⟨kb.1, kb.2.1⟩
      have h2 := h45.out ay by_ ⟨ka.2.2.1, ka.2.2.2⟩ ⟨kb.2.2.1, kb.2.2.2⟩
      have hX : 0 ≤ apt ax bx ∧ apt ax bx ≤ 2000 := by unfold apt; omega
      have hY : 0 ≤ apt ay by_ ∧ apt ay by_ ≤ 2000 := by unfold apt; omega
      have e1 := h44.out ax ay
      have e2 := h44.out bx by_
      rw [ha] at e1
      rw [hb] at e2
      rw [ha, hb]
      generalize apt ax bx = X at *
      generalize apt ay by_ = Y at *
      have H1 := hid h1
      have H2 := hid h2
      have E1 := hid e1
      have E2 := hid e2
      clear h1 h2 e1 e2 h44 h45 ha hb ka kb
      obtain ⟨x1, x2⟩ := hX
      obtain ⟨y1, y2⟩ := hY
      unfold C at *
      go_enter Try.func39, Try.ntmps39
      go_upto_region 1 with (fail)
      obtain ⟨W, hW⟩ : ∃ W, W = (w.alloc (.cells #[Value.int .i64 ax, .int .i64 ay] 32)).alloc (.cells #[Value.int .i64 bx, .int .i64 by_] 32) := ⟨_, rfl⟩
      obtain ⟨B, hB⟩ : ∃ B, B = w.heap.size := ⟨_, rfl⟩
      rw [← hW, ← hB]
      obtain ⟨hk, hbe⟩ := two_boxes w ax ay bx by_ W B hW hB
      obtain ⟨a0, a1, a2, a3⟩ := hk W (Below.refl _ _)
      have HK := hid hk
      have HBE := hid hbe
      clear hW hB hk hbe
      go_wp2_with fail
      refine Calls.mono (E1.out _) ?_
      rintro e w1 ⟨rfl, hb1⟩
      obtain ⟨b0, b1, b2, b3⟩ := HK.out w1 hb1
      have HB1 := hid hb1
      clear hb1
      go_wp2_with fail
      refine Calls.mono (E2.out _) ?_
      rintro e w2 ⟨rfl, hb2⟩
      have HB2 := hid (HB1.out.trans (hb2.mono HB1.out.size))
      obtain ⟨c0, c1, c2, c3⟩ := HK.out w2 HB2.out
      clear hb2
      go_upto_region 3 with (fail)
      go_quiet (first
        | (go_at_call 49; with_reducible exact Calls.quiet_of_same (H1.out _))
        | (go_at_call 49; with_reducible exact Calls.quiet_of_same (H2.out _)))
      go_wp2
      go_ret
      exact ⟨rfl, HBE.out _ (Below.drewN HB2.out _)⟩
    · have e1 := h44.out ax ay
      have e2 := h44.out bx by_
      rw [ha] at e1
      rw [hb] at e2
      rw [ha, hb]
      have E1 := hid e1
      have E2 := hid e2
      clear e1 e2 h44 h45 ha hb
      unfold C at *
      go_enter Try.func39, Try.ntmps39
      go_upto_region 1 with (fail)
      obtain ⟨W, hW⟩ : ∃ W, W = (w.alloc (.cells #[Value.int .i64 ax, .int .i64 ay] 32)).alloc (.cells #[Value.int .i64 bx, .int .i64 by_] 32) := ⟨_, rfl⟩
      obtain ⟨B, hB⟩ : ∃ B, B = w.heap.size := ⟨_, rfl⟩
      rw [← hW, ← hB]
      obtain ⟨hk, hbe⟩ := two_boxes w ax ay bx by_ W B hW hB
      obtain ⟨a0, a1, a2, a3⟩ := hk W (Below.refl _ _)
      have HK := hid hk
      have HBE := hid hbe
      clear hW hB hk hbe
      go_wp2_with fail
      refine Calls.mono (E1.out _) ?_
      rintro e w1 ⟨rfl, hb1⟩
      obtain ⟨b0, b1, b2, b3⟩ := HK.out w1 hb1
      have HB1 := hid hb1
      clear hb1
      go_wp2_with fail
      refine Calls.mono (E2.out _) ?_
      rintro e w2 ⟨rfl, hb2⟩
      have HB2 := hid (HB1.out.trans (hb2.mono HB1.out.size))
      clear hb2
      go_wp2
      go_ret
      exact ⟨rfl, HBE.out _ HB2.out⟩
  · have e1 := h44.out ax ay
    rw [ha] at e1
    rw [ha, Bool.false_and]
    have E1 := hid e1
    clear e1 h44 h45 ha
    unfold C at *
    go_enter Try.func39, Try.ntmps39
    go_upto_region 1 with (fail)
    obtain ⟨W, hW⟩ : ∃ W, W = (w.alloc (.cells #[Value.int .i64 ax, .int .i64 ay] 32)).alloc (.cells #[Value.int .i64 bx, .int .i64 by_] 32) := ⟨_, rfl⟩
    obtain ⟨B, hB⟩ : ∃ B, B = w.heap.size := ⟨_, rfl⟩
    rw [← hW, ← hB]
    obtain ⟨hk, hbe⟩ := two_boxes w ax ay bx by_ W B hW hB
    obtain ⟨a0, a1, a2, a3⟩ := hk W (Below.refl _ _)
    have HBE := hid hbe
    clear hW hB hk hbe
    go_wp2_with fail
    refine Calls.mono (E1.out _) ?_
    rintro e w1 ⟨rfl, hb1⟩
    have HB1 := hid hb1
    clear hb1
    go_wp2
    go_ret
    exact ⟨rfl, HBE.out _ HB1.out⟩
set_option maxHeartbeats 1000000 in
theorem refMeas_any (x y : Int) (w : World) : Calls Try.prog 33 #[C x y] w fun e w' => Out w (.bool (meas x y)) e w' := by
  unfold meas C Out
  by_cases h1 : -1000 ≤ x
  · by_cases h2 : x ≤ 1000
    · by_cases h3 : -1000 ≤ y
      · go_enter Try.func33, Try.ntmps33
        go_wp2
        go_ret
        exact ⟨by simp [h1, h2, h3], (Below.refl _ _).alloc (Nat.le_refl _) _⟩
      · have g3 : (-1000 ≤ y) = False := by simp; omega
        go_enter Try.func33, Try.ntmps33
        go_wp2
        go_ret
        exact ⟨by simp, (Below.refl _ _).alloc (Nat.le_refl _) _⟩
    · have g2 : (x ≤ 1000) = False := by simp; omega
      go_enter Try.func33, Try.ntmps33
      go_wp2
      go_ret
      exact ⟨by simp, (Below.refl _ _).alloc (Nat.le_refl _) _⟩
  · have g1 : (-1000 ≤ x) = False := by simp; omega
    go_enter Try.func33, Try.ntmps33
    go_wp2
    go_ret
    exact ⟨by simp, (Below.refl _ _).alloc (Nat.le_refl _) _⟩
set_option maxHeartbeats 1000000 in
theorem refSize_any (a b : Int) (ha : -1000 ≤ a ∧ a ≤ 1000) (hb : -1000 ≤ b ∧ b ≤ 1000) (w : World) : Calls Try.prog 34 #[.int .i64 (a - b)] w fun e w' => e = .returned (.int .i64 (apt a b)) ∧ w' = w := by
  have hx : apt a b = if a - b < -(a - b) then -(a - b) else a - b := by unfold apt; split <;> omega
  rw [hx]
  obtain ⟨x, hx⟩ : ∃ x, a - b = x := ⟨_, rfl⟩
  have h1 : -2000 ≤ x := by omega
  have h2 : x ≤ 2000 := by omega
  rw [hx]
  clear hx ha hb
  by_cases hn : x < -x
  · rw [if_pos hn]
    go_enter Try.func34, Try.ntmps34
    go_wp2 <;> (go_ret; exact ⟨by simp <;> omega, rfl⟩)
  · rw [if_neg hn]
    go_enter Try.func34, Try.ntmps34
    go_wp2 <;> (go_ret; exact ⟨by simp <;> omega, rfl⟩)
set_option maxHeartbeats 2000000 in
theorem refDist_any (ax ay bx by_ : Int) (w : World) : Calls Try.prog 17 #[C ax ay, C bx by_] w fun e w' => Out w (.int .i64 (dist ax ay bx by_)) e w' := by
  have h44 : Hid (∀ x y W, Calls Try.prog 33 #[C x y] W fun e w' => Out W (.bool (meas x y)) e w') := refMeas_any
  have h45 : Hid (∀ (a b : Int) (_ : -1000 ≤ a ∧ a ≤ 1000) (_ : -1000 ≤ b ∧ b ≤ 1000) W, Calls Try.prog 34 #[.int .i64 (a - b)] W fun e w' => e = .returned (.int .i64 (apt a b)) ∧ w' = W) := refSize_any
  unfold dist
  rcases Bool.eq_false_or_eq_true (meas ax ay) with ha | ha
  · rcases Bool.eq_false_or_eq_true (meas bx by_) with hb | hb
    · have ka := meas_of ha
      have kb := meas_of hb
      have h1 := h45.out ax bx ⟨ka.1, ka.2.1⟩ ⟨kb.1, kb.2.1⟩
      have h2 := h45.out ay by_ ⟨ka.2.2.1, ka.2.2.2⟩ ⟨kb.2.2.1, kb.2.2.2⟩
      have hX : 0 ≤ apt ax bx ∧ apt ax bx ≤ 2000 := by unfold apt; omega
      have hY : 0 ≤ apt ay by_ ∧ apt ay by_ ≤ 2000 := by unfold apt; omega
      have e1 := h44.out ax ay
      have e2 := h44.out bx by_
      rw [ha] at e1
      rw [hb] at e2
      rw [ha, hb]
      generalize apt ax bx = X at *
      generalize apt ay by_ = Y at *
      have H1 := hid h1
      have H2 := hid h2
      have E1 := hid e1
      have E2 := hid e2
      obtain ⟨ka1, ka2, ka3, ka4⟩ := ka
      obtain ⟨kb1, kb2, kb3, kb4⟩ := kb
      clear h1 h2 e1 e2 h44 h45 ha hb
      obtain ⟨x1, x2⟩ := hX
      obtain ⟨y1, y2⟩ := hY
      unfold C at *
      go_enter Try.func17, Try.ntmps17
      go_upto_region 1 with (fail)
      obtain ⟨W, hW⟩ : ∃ W, W = (w.alloc (.cells #[Value.int .i64 ax, .int .i64 ay] 32)).alloc (.cells #[Value.int .i64 bx, .int .i64 by_] 32) := ⟨_, rfl⟩
      obtain ⟨B, hB⟩ : ∃ B, B = w.heap.size := ⟨_, rfl⟩
      rw [← hW, ← hB]
      obtain ⟨hk, hbe⟩ := two_boxes w ax ay bx by_ W B hW hB
      obtain ⟨a0, a1, a2, a3⟩ := hk W (Below.refl _ _)
      have HK := hid hk
      have HBE := hid hbe
      clear hW hB hk hbe
      go_wp2_with fail
      refine Calls.mono (E1.out _) ?_
      rintro e w1 ⟨rfl, hb1⟩
      obtain ⟨b0, b1, b2, b3⟩ := HK.out w1 hb1
      have HB1 := hid hb1
      clear hb1
      go_wp2_with fail
      refine Calls.mono (E2.out _) ?_
      rintro e w2 ⟨rfl, hb2⟩
      have HB2 := hid (HB1.out.trans (hb2.mono HB1.out.size))
      obtain ⟨c0, c1, c2, c3⟩ := HK.out w2 HB2.out
      clear hb2
      go_upto_region 3 with (fail)
      go_quiet (first
        | (go_at_call 34; with_reducible exact Calls.quiet_of_same (H1.out _))
        | (go_at_call 34; with_reducible exact Calls.quiet_of_same (H2.out _)))
      go_wp2
      go_ret
      exact ⟨rfl, HBE.out _ (Below.drewN HB2.out _)⟩
    · have e1 := h44.out ax ay
      have e2 := h44.out bx by_
      rw [ha] at e1
      rw [hb] at e2
      rw [ha, hb]
      have E1 := hid e1
      have E2 := hid e2
      clear e1 e2 h44 h45 ha hb
      unfold C at *
      go_enter Try.func17, Try.ntmps17
      go_upto_region 1 with (fail)
      obtain ⟨W, hW⟩ : ∃ W, W = (w.alloc (.cells #[Value.int .i64 ax, .int .i64 ay] 32)).alloc (.cells #[Value.int .i64 bx, .int .i64 by_] 32) := ⟨_, rfl⟩
      obtain ⟨B, hB⟩ : ∃ B, B = w.heap.size := ⟨_, rfl⟩
      rw [← hW, ← hB]
      obtain ⟨hk, hbe⟩ := two_boxes w ax ay bx by_ W B hW hB
      obtain ⟨a0, a1, a2, a3⟩ := hk W (Below.refl _ _)
      have HK := hid hk
      have HBE := hid hbe
      clear hW hB hk hbe
      go_wp2_with fail
      refine Calls.mono (E1.out _) ?_
      rintro e w1 ⟨rfl, hb1⟩
      obtain ⟨b0, b1, b2, b3⟩ := HK.out w1 hb1
      have HB1 := hid hb1
      clear hb1
      go_wp2_with fail
      refine Calls.mono (E2.out _) ?_
      rintro e w2 ⟨rfl, hb2⟩
      have HB2 := hid (HB1.out.trans (hb2.mono HB1.out.size))
      clear hb2
      go_wp2
      go_ret
      exact ⟨rfl, HBE.out _ HB2.out⟩
  · have e1 := h44.out ax ay
    rw [ha] at e1
    rw [ha, Bool.false_and]
    have E1 := hid e1
    clear e1 h44 h45 ha
    unfold C at *
    go_enter Try.func17, Try.ntmps17
    go_upto_region 1 with (fail)
    obtain ⟨W, hW⟩ : ∃ W, W = (w.alloc (.cells #[Value.int .i64 ax, .int .i64 ay] 32)).alloc (.cells #[Value.int .i64 bx, .int .i64 by_] 32) := ⟨_, rfl⟩
    obtain ⟨B, hB⟩ : ∃ B, B = w.heap.size := ⟨_, rfl⟩
    rw [← hW, ← hB]
    obtain ⟨hk, hbe⟩ := two_boxes w ax ay bx by_ W B hW hB
    obtain ⟨a0, a1, a2, a3⟩ := hk W (Below.refl _ _)
    have HBE := hid hbe
    clear hW hB hk hbe
    go_wp2_with fail
    refine Calls.mono (E1.out _) ?_
    rintro e w1 ⟨rfl, hb1⟩
    have HB1 := hid hb1
    clear hb1
    go_wp2
    go_ret
    exact ⟨rfl, HBE.out _ HB1.out⟩
end Go.Proofs.Ytnilgnnlobiojaa
