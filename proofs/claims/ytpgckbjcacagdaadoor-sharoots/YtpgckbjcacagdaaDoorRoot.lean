/- What root answers: the first bits of a square or cube root. -/
import Derived.Test.YtpgckbjcacagdaaDoorTimes
import Derived.Deep.DeepCutAuto
namespace Go.Proofs.YtpgckbjcacagdaaDoor
open Go.RowKit
/-- A number as twelve limbs. -/
def limbs (x : Nat) : List Nat := [x % 65536, x / 65536 % 65536, x / 65536 / 65536, 0, 0, 0, 0, 0, 0, 0, 0, 0]
theorem limbs_val (x : Nat) : val (limbs x) = x := by
  simp only [limbs, val]; omega
theorem limbs_lim (x : Nat) (h : x < 281474976710656) : Lim (limbs x) := by
  refine ⟨rfl, fun m y hy => ?_⟩
  have := List.mem_of_getElem? hy
  simp [limbs] at this
  omega
/-- The number that the power is held against. -/
def want (k p : Nat) : List Nat := (List.replicate 12 0).set (2 * k) p
theorem want_val (k p : Nat) (hk : 2 * k < 12) : val (want k p) = 65536 ^ (2 * k) * p := by
  have := val_set (List.replicate 12 0) (2 * k) p 0 (by rw [List.getElem?_replicate, if_pos hk])
  rw [val_zeros] at this
  unfold want
  omega
theorem want_lim (k p : Nat) (hp : p < 65536) : Lim (want k p) := by
  refine ⟨by simp [want], fun m y hy => ?_⟩
  have h1 := List.mem_of_getElem? hy
  have h2 := List.mem_or_eq_of_mem_set h1
  rcases h2 with h2 | h2
  · have := List.eq_of_mem_replicate h2
    omega
  · omega
theorem Lim.mem {l : List Nat} (h : Lim l) : ∀ z ∈ l, z < 65536 := by
  intro z hz
  obtain ⟨m, hm⟩ := List.getElem?_of_mem hz
  exact h.2 m z hm
theorem zv67 (w : World) : (zeroValue 67).run Tryd.prog w = .ok (.agg ((List.replicate 12 0).map LV).toArray) w := by rw [zL_eq]; exact Tryd.zeroValue67 w
theorem mapLV_one (l : List Nat) : ∀ v ∈ l.map LV, v.oneCell' = true := by
  intro v hv
  obtain ⟨x, _, rfl⟩ := List.mem_map.1 hv
  rfl
theorem wrap_u64n (m : Nat) (h : m < 18446744073709551616) : IntKind.u64.wrap (m : Int) = (m : Int) := by
  simp [IntKind.wrap, IntKind.bits, IntKind.signed]; omega
/-- One root alone fits. -/
theorem root_one (k r R P : Nat) (h1 : r ^ k ≤ P) (h2 : P < (r + 1) ^ k) (h3 : R ^ k ≤ P) (h4 : P < (R + 1) ^ k) : r = R := by
  have e1 : r < R + 1 := by
    rcases Nat.lt_or_ge r (R + 1) with h | h
    · exact h
    · have := Nat.pow_le_pow_left h k
      omega
  have e2 : R < r + 1 := by
    rcases Nat.lt_or_ge R (r + 1) with h | h
    · exact h
    · have := Nat.pow_le_pow_left h k
      omega
  omega
set_option maxRecDepth 100000 in
set_option maxHeartbeats 4000000 in
theorem root2_any (p R : Nat) (hp : p < 65536) (hR1 : R ^ 2 ≤ 65536 ^ 4 * p) (hR2 : 65536 ^ 4 * p < (R + 1) ^ 2) (w : World) :
    Calls Tryd.prog 32 #[.int .u64 (p : Int), .int .i64 2] w fun e w' => e = .returned (U (BitVec.ofNat 32 R)) ∧ Below w.heap.size w w' := by
  obtain ⟨P, hP⟩ : ∃ P, P = 65536 ^ 4 * p := ⟨_, rfl⟩
  rw [← hP] at hR1 hR2
  have HP0 : Hid (∀ D, D = 2 ^ 41 → P < (0 + D) ^ 2) := by rintro D rfl; rw [hP]; omega
  have HR : Hid (R ^ 2 ≤ P ∧ P < (R + 1) ^ 2) := ⟨hR1, hR2⟩
  have HW : Hid (val (want 2 p) = P) := by show _ = _; rw [hP]; exact want_val 2 p (by omega)
  have HWL : Hid (Lim (want 2 p)) := want_lim 2 p hp
  clear hR1 hR2 hP
  have h39 : Hid (∀ a b W, Lim a → Lim b → (∀ n, n = 12 → val a * val b < 65536 ^ n) → Calls Tryd.prog 39 #[.agg (a.map LV).toArray, .agg (b.map LV).toArray] W fun e w' => TimesOk a b e ∧ Below W.heap.size W w') := fun a b W ha hb hab => times_any a b ha hb (hab _ rfl) W
  have h40 : Hid (∀ a b W, Lim a → Lim b → Calls Tryd.prog 40 #[.agg (a.map LV).toArray, .agg (b.map LV).toArray] W fun e w' => e = .returned (.bool (decide (val a < val b))) ∧ Below W.heap.size W w') := fun a b W ha hb => less_any a b ha.1 hb.1 ha.mem hb.mem W
  have hB0 : Blk (w.alloc (.cells ((want 2 p).map LV).toArray 67)) w.heap.size ((want 2 p).map LV) 67 := Blk.new _ _ _
  have hbe0 : Below w.heap.size w (w.alloc (.cells ((want 2 p).map LV).toArray 67)) := (Below.refl _ _).alloc (Nat.le_refl _) _
  have ew : (want 2 p).map LV = [Value.int .u64 0, .int .u64 0, .int .u64 0, .int .u64 0, .int .u64 (p : Int), .int .u64 0, .int .u64 0, .int .u64 0, .int .u64 0, .int .u64 0, .int .u64 0, .int .u64 0] := rfl
  rw [ew] at hB0 hbe0
  go_enter Tryd.func32, Tryd.ntmps32
  go_wp2
  generalize w.alloc _ = W at *
  rw [← ew] at hB0
  clear ew
  go_loopw [6, 7] (fun rv bv wr => ∃ (r b : Nat), rv = .int .u64 (r : Nat) ∧ bv = .int .i64 ((b : Int) - 1) ∧ b ≤ 41 ∧ Hid (∀ D, D = 2 ^ b → r + D ≤ 2199023255552 ∧ r ^ 2 ≤ P ∧ P < (r + D) ^ 2) ∧ Hid (Blk wr w.heap.size ((want 2 p).map LV) 67) ∧ Hid (Below w.heap.size w wr)) (fun _ bv _ => (intOf bv + 1).toNat)
  case atStart => exact ⟨0, 41, rfl, rfl, by omega, by rintro D hD; exact ⟨by rw [hD]; decide, by simp, HP0.out D hD⟩, hB0, hbe0⟩
  case round =>
    clear hB0 hbe0 HP0
    obtain ⟨r, b, rfl, rfl, hb, hI, hK, hbe⟩ := hrel
    by_cases hlt : 0 < b
    · obtain ⟨c, rfl⟩ : ∃ c, b = c + 1 := ⟨b - 1, by omega⟩
      have ei : ((c + 1 : Nat) : Int) - 1 = (c : Int) := by omega
      rw [ei]
      have e0 : (0 : Int) ≤ (c : Int) := by omega
      have e1 : (c : Int) < 64 := by omega
      obtain ⟨D, hD⟩ : ∃ D, D = 2 ^ c := ⟨_, rfl⟩
      have hI2 := hI.out (2 * D) (by rw [hD, Nat.pow_succ, Nat.mul_comm])
      obtain ⟨hI3, hI4, hI5⟩ := hI2
      obtain ⟨x, hx⟩ : ∃ x, x = r + D := ⟨_, rfl⟩
      have hx41 : x ≤ 2199023255552 := by omega
      have sh : IntKind.u64.wrap (2 ^ c) = (D : Int) := by
        rw [← wrap_u64n D (by omega)]; congr 1; rw [hD]; push_cast; rfl
      have sx : IntKind.u64.wrap ((r : Int) + (D : Int)) = (x : Int) := by
        rw [← wrap_u64n x (by omega)]; congr 1; omega
      obtain ⟨x0, hx0⟩ : ∃ y, y = x % 65536 := ⟨_, rfl⟩
      obtain ⟨x1, hx1⟩ : ∃ y, y = x / 65536 % 65536 := ⟨_, rfl⟩
      obtain ⟨x2, hx2⟩ : ∃ y, y = x / 65536 / 65536 := ⟨_, rfl⟩
      have i0 : (x : Int) % 65536 = (x0 : Int) := by omega
      have i1 : (x : Int) / 65536 % 65536 = (x1 : Int) := by omega
      have i2 : (x : Int) / 65536 / 65536 = (x2 : Int) := by omega
      have elim : (limbs x).map LV = [.int .u64 (x0 : Int), .int .u64 (x1 : Int), .int .u64 (x2 : Int), .int .u64 0, .int .u64 0, .int .u64 0, .int .u64 0, .int .u64 0, .int .u64 0, .int .u64 0, .int .u64 0, .int .u64 0] := by rw [hx0, hx1, hx2]; rfl
      have HLx : Hid (Lim (limbs x)) := limbs_lim x (by omega)
      have HVx : Hid (val (limbs x) = x) := limbs_val x
      have hsq : Hid (∀ n, n = 12 → val (limbs x) * val (limbs x) < 65536 ^ n) := by
        rintro n rfl
        rw [HVx.out]
        exact Nat.lt_of_le_of_lt (Nat.mul_le_mul hx41 hx41) (by decide)
      have hc1 : Hid (∀ W, Calls Tryd.prog 39 #[.agg #[.int .u64 (x0 : Int), .int .u64 (x1 : Int), .int .u64 (x2 : Int), .int .u64 0, .int .u64 0, .int .u64 0, .int .u64 0, .int .u64 0, .int .u64 0, .int .u64 0, .int .u64 0, .int .u64 0], .agg #[.int .u64 (x0 : Int), .int .u64 (x1 : Int), .int .u64 (x2 : Int), .int .u64 0, .int .u64 0, .int .u64 0, .int .u64 0, .int .u64 0, .int .u64 0, .int .u64 0, .int .u64 0, .int .u64 0]] W fun e w' => TimesOk (limbs x) (limbs x) e ∧ Below W.heap.size W w') := fun W => by
        have h := h39.out (limbs x) (limbs x) W HLx.out HLx.out hsq.out
        rw [elim] at h
        exact h
      have HI : Hid (r + 2 * D ≤ 2199023255552 ∧ r ^ 2 ≤ P ∧ P < (r + 2 * D) ^ 2) := ⟨hI3, hI4, hI5⟩
      have HXD : Hid (x = r + D) := hx
      have HD : Hid (D = 2 ^ c) := hD
      have HNA : Hid (Blk (wr.alloc (.cells (([.int .u64 (x0 : Int), .int .u64 (x1 : Int), .int .u64 (x2 : Int), .int .u64 0, .int .u64 0, .int .u64 0, .int .u64 0, .int .u64 0, .int .u64 0, .int .u64 0, .int .u64 0, .int .u64 0] : List Value)).toArray 67)) wr.heap.size ((limbs x).map LV) 67) := by rw [elim]; exact Blk.new _ _ _
      have hsz0 := hbe.out.size
      have HBA : Hid (Blk (wr.alloc (.cells (([.int .u64 (x0 : Int), .int .u64 (x1 : Int), .int .u64 (x2 : Int), .int .u64 0, .int .u64 0, .int .u64 0, .int .u64 0, .int .u64 0, .int .u64 0, .int .u64 0, .int .u64 0, .int .u64 0] : List Value)).toArray 67)) w.heap.size ((want 2 p).map LV) 67 ∧ Below w.heap.size w (wr.alloc (.cells (([.int .u64 (x0 : Int), .int .u64 (x1 : Int), .int .u64 (x2 : Int), .int .u64 0, .int .u64 0, .int .u64 0, .int .u64 0, .int .u64 0, .int .u64 0, .int .u64 0, .int .u64 0, .int .u64 0] : List Value)).toArray 67))) := ⟨hK.out.alloc _, hbe.out.alloc hsz0 _⟩
      clear hI hI3 hI4 hI5 hx hD hx0 hx1 hx2 elim hK hbe hsq
      go_wp2_with fail
      refine Calls.mono (hc1.out _) ?_
      rintro e w1 ⟨⟨y, rfl, hly, hvy⟩, hb1⟩
      obtain ⟨hBw, hbw⟩ := HBA.out
      have hNA := HNA.out
      clear HBA HNA hc1
      generalize wr.alloc _ = W0 at *
      obtain ⟨N, hN⟩ : ∃ N, N = wr.heap.size := ⟨_, rfl⟩
      rw [← hN] at hNA
      simp only [← hN]
      clear hN
      have hBw1 := hBw.below hb1 hBw.lt
      have hNA1 := hNA.below hb1 hNA.lt
      have hbw1 : Below w.heap.size w w1 := hbw.trans (hb1.mono hbw.size)
      clear hb1 hBw hNA hbw
      have HVY : Hid (val y = x * x) := by show _ = _; rw [hvy, HVx.out]
      have HLY : Hid (Lim y) := hly
      have hi67 : (Tryd.prog.info? 67).map (·.size) = some (y.map LV).length := by rw [List.length_map, hly.1]; exact size67
      have hth : (w1.alloc (.cells #[Value.int .u64 0, .int .u64 0, .int .u64 0, .int .u64 0, .int .u64 0, .int .u64 0, .int .u64 0, .int .u64 0, .int .u64 0, .int .u64 0, .int .u64 0, .int .u64 0] 67)).there w1.heap.size 0 (y.map LV).length := (Blk.new w1 [Value.int .u64 0, .int .u64 0, .int .u64 0, .int .u64 0, .int .u64 0, .int .u64 0, .int .u64 0, .int .u64 0, .int .u64 0, .int .u64 0, .int .u64 0, .int .u64 0] 67).there 0 _ (by rw [List.length_map, hly.1]; simp)
      have hone : Hid (∀ v ∈ y.map LV, v.oneCell' = true) := mapLV_one y
      have hY : Blk ((w1.alloc (.cells #[Value.int .u64 0, .int .u64 0, .int .u64 0, .int .u64 0, .int .u64 0, .int .u64 0, .int .u64 0, .int .u64 0, .int .u64 0, .int .u64 0, .int .u64 0, .int .u64 0] 67)).setCells w1.heap.size 0 (y.map LV)) w1.heap.size (y.map LV) 67 := by
        have h := Blk.setCells (y.map LV) 0 (Blk.new w1 [Value.int .u64 0, .int .u64 0, .int .u64 0, .int .u64 0, .int .u64 0, .int .u64 0, .int .u64 0, .int .u64 0, .int .u64 0, .int .u64 0, .int .u64 0, .int .u64 0] 67) (by rw [List.length_map, hly.1]; simp)
        rw [show over [Value.int .u64 0, .int .u64 0, .int .u64 0, .int .u64 0, .int .u64 0, .int .u64 0, .int .u64 0, .int .u64 0, .int .u64 0, .int .u64 0, .int .u64 0, .int .u64 0] 0 (y.map LV) = y.map LV by simp [over, hly.1]] at h
        exact h
      have hlt1 := hBw1.lt
      have hlt2 := hNA1.lt
      have hBw2 := (hBw1.alloc (.cells #[Value.int .u64 0, .int .u64 0, .int .u64 0, .int .u64 0, .int .u64 0, .int .u64 0, .int .u64 0, .int .u64 0, .int .u64 0, .int .u64 0, .int .u64 0, .int .u64 0] 67)).setCells_ne w1.heap.size (by omega) 0 (y.map LV)
      have hNA2 := (hNA1.alloc (.cells #[Value.int .u64 0, .int .u64 0, .int .u64 0, .int .u64 0, .int .u64 0, .int .u64 0, .int .u64 0, .int .u64 0, .int .u64 0, .int .u64 0, .int .u64 0, .int .u64 0] 67)).setCells_ne w1.heap.size (by omega) 0 (y.map LV)
      have hbw2 := Below.setCells (hbw1.alloc hbw1.size (.cells #[Value.int .u64 0, .int .u64 0, .int .u64 0, .int .u64 0, .int .u64 0, .int .u64 0, .int .u64 0, .int .u64 0, .int .u64 0, .int .u64 0, .int .u64 0, .int .u64 0] 67)) (b := w1.heap.size) hbw1.size 0 (y.map LV)
      clear hvy hly hBw1 hNA1 hbw1
      go_upto_region 10 with (first
        | ((with_reducible refine wpL_store 67 w1.heap.size 0 (y.map LV) ?_ ?_ hth hi67 hone.out ?_); (rfl); (rfl); (simp only [Act.put])))
      clear hth
      generalize (w1.alloc _).setCells w1.heap.size 0 (y.map LV) = W2 at *
      obtain ⟨M, hM⟩ : ∃ M, M = w1.heap.size := ⟨_, rfl⟩
      rw [← hM] at hY hlt1 hlt2
      simp only [← hM]
      clear hM
      have hiw : (Tryd.prog.info? 67).map (·.size) = some ((want 2 p).map LV).length := by rw [List.length_map, HWL.out.1]; exact size67
      have hrw := hBw2.range
      have hrz := hY.range
      have hc5 : Hid (Calls Tryd.prog 40 #[.agg ((want 2 p).map LV).toArray, .agg (y.map LV).toArray] W2 fun e w' => e = .returned (.bool (decide (P < x * x))) ∧ Below W2.heap.size W2 w') := by
        have h := h40.out (want 2 p) y W2 HWL.out HLY.out
        rw [HW.out, HVY.out] at h
        exact h
      go_wp2_with (first
        | ((with_reducible refine wpL_load 67 w.heap.size 0 ((want 2 p).map LV) _ ?_ hrw Tryd.underlying67 ?_ hiw ?_); (rfl); (rfl); (simp only [Act.put, List.setIfInBounds_toArray, List.set_cons_zero, List.set_cons_succ]))
        | ((with_reducible refine wpL_load 67 M 0 (y.map LV) _ ?_ hrz Tryd.underlying67 ?_ hi67 ?_); (rfl); (rfl); (simp only [Act.put, List.setIfInBounds_toArray, List.set_cons_zero, List.set_cons_succ])))
      refine Calls.mono hc5.out ?_
      rintro e w6 ⟨rfl, hb6⟩
      have hBw6 := hBw2.below hb6 hBw2.lt
      have hbw6 : Below w.heap.size w w6 := hbw2.trans (hb6.mono hbw2.size)
      have hpw : x * x = x ^ 2 := by rw [Nat.pow_two]
      rw [hpw]
      clear hrw hrz hc5 hb6 hBw2 hbw2 hY hi67 HVY HLY hpw hNA2 HVx HLx
      rcases Nat.lt_or_ge P (x ^ 2) with hc | hc
      · have hd : decide (P < x ^ 2) = true := decide_eq_true hc
        rw [hd]
        have HN : Hid (∀ E, E = 2 ^ c → r + E ≤ 2199023255552 ∧ r ^ 2 ≤ P ∧ P < (r + E) ^ 2) := by
          intro E hE
          obtain ⟨a1, a2, a3⟩ := HI.out
          rw [hE, ← HD.out]
          exact ⟨by omega, a2, by rw [← HXD.out]; exact hc⟩
        clear hc hd HI
        go_wp2
        go_roundw
        case rel => exact ⟨r, c, rfl, by go_num, by omega, HN, hBw6, hbw6⟩
        case measure => simp [intOf]
      · have hd : decide (P < x ^ 2) = false := decide_eq_false (by omega)
        rw [hd]
        have HN : Hid (∀ E, E = 2 ^ c → x + E ≤ 2199023255552 ∧ x ^ 2 ≤ P ∧ P < (x + E) ^ 2) := by
          intro E hE
          obtain ⟨a1, a2, a3⟩ := HI.out
          have h1 := HXD.out
          rw [hE, ← HD.out]
          refine ⟨by omega, hc, ?_⟩
          have h2 : x + D = r + 2 * D := by omega
          rw [h2]; exact a3
        clear hc hd HI
        go_wp2
        go_roundw
        case rel => exact ⟨x, c, rfl, by go_num, by omega, HN, hBw6, hbw6⟩
        case measure => simp [intOf]
    · have hb0 : b = 0 := by omega
      subst hb0
      obtain ⟨a1, a2, a3⟩ := hI.out 1 (by simp)
      obtain ⟨r1, r2⟩ := HR.out
      have hrR : r = R := root_one 2 r R P a2 a3 r1 r2
      subst hrR
      have HU : Hid (Value.int .u32 ((r : Int) % 4294967296) = U (BitVec.ofNat 32 r)) := by
        show _ = _
        unfold U; congr 1
      clear a1 a2 a3 r1 r2 hI
      go_wp2
      go_ret
      exact ⟨by rw [← HU.out]; rfl, hbe.out⟩
set_option maxRecDepth 100000 in
set_option maxHeartbeats 4000000 in
theorem root3_any (p R : Nat) (hp : p < 65536) (hR1 : R ^ 3 ≤ 65536 ^ 6 * p) (hR2 : 65536 ^ 6 * p < (R + 1) ^ 3) (w : World) :
    Calls Tryd.prog 32 #[.int .u64 (p : Int), .int .i64 3] w fun e w' => e = .returned (U (BitVec.ofNat 32 R)) ∧ Below w.heap.size w w' := by
  obtain ⟨P, hP⟩ : ∃ P, P = 65536 ^ 6 * p := ⟨_, rfl⟩
  rw [← hP] at hR1 hR2
  have HP0 : Hid (∀ D, D = 2 ^ 41 → P < (0 + D) ^ 3) := by rintro D rfl; rw [hP]; omega
  have HR : Hid (R ^ 3 ≤ P ∧ P < (R + 1) ^ 3) := ⟨hR1, hR2⟩
  have HW : Hid (val (want 3 p) = P) := by show _ = _; rw [hP]; exact want_val 3 p (by omega)
  have HWL : Hid (Lim (want 3 p)) := want_lim 3 p hp
  clear hR1 hR2 hP
  have h39 : Hid (∀ a b W, Lim a → Lim b → (∀ n, n = 12 → val a * val b < 65536 ^ n) → Calls Tryd.prog 39 #[.agg (a.map LV).toArray, .agg (b.map LV).toArray] W fun e w' => TimesOk a b e ∧ Below W.heap.size W w') := fun a b W ha hb hab => times_any a b ha hb (hab _ rfl) W
  have h40 : Hid (∀ a b W, Lim a → Lim b → Calls Tryd.prog 40 #[.agg (a.map LV).toArray, .agg (b.map LV).toArray] W fun e w' => e = .returned (.bool (decide (val a < val b))) ∧ Below W.heap.size W w') := fun a b W ha hb => less_any a b ha.1 hb.1 ha.mem hb.mem W
  have hB0 : Blk (w.alloc (.cells ((want 3 p).map LV).toArray 67)) w.heap.size ((want 3 p).map LV) 67 := Blk.new _ _ _
  have hbe0 : Below w.heap.size w (w.alloc (.cells ((want 3 p).map LV).toArray 67)) := (Below.refl _ _).alloc (Nat.le_refl _) _
  have ew : (want 3 p).map LV = [Value.int .u64 0, .int .u64 0, .int .u64 0, .int .u64 0, .int .u64 0, .int .u64 0, .int .u64 (p : Int), .int .u64 0, .int .u64 0, .int .u64 0, .int .u64 0, .int .u64 0] := rfl
  rw [ew] at hB0 hbe0
  go_enter Tryd.func32, Tryd.ntmps32
  go_wp2
  generalize w.alloc _ = W at *
  rw [← ew] at hB0
  clear ew
  go_loopw [6, 7] (fun rv bv wr => ∃ (r b : Nat), rv = .int .u64 (r : Nat) ∧ bv = .int .i64 ((b : Int) - 1) ∧ b ≤ 41 ∧ Hid (∀ D, D = 2 ^ b → r + D ≤ 2199023255552 ∧ r ^ 3 ≤ P ∧ P < (r + D) ^ 3) ∧ Hid (Blk wr w.heap.size ((want 3 p).map LV) 67) ∧ Hid (Below w.heap.size w wr)) (fun _ bv _ => (intOf bv + 1).toNat)
  case atStart => exact ⟨0, 41, rfl, rfl, by omega, by rintro D hD; exact ⟨by rw [hD]; decide, by simp, HP0.out D hD⟩, hB0, hbe0⟩
  case round =>
    clear hB0 hbe0 HP0
    obtain ⟨r, b, rfl, rfl, hb, hI, hK, hbe⟩ := hrel
    by_cases hlt : 0 < b
    · obtain ⟨c, rfl⟩ : ∃ c, b = c + 1 := ⟨b - 1, by omega⟩
      have ei : ((c + 1 : Nat) : Int) - 1 = (c : Int) := by omega
      rw [ei]
      have e0 : (0 : Int) ≤ (c : Int) := by omega
      have e1 : (c : Int) < 64 := by omega
      obtain ⟨D, hD⟩ : ∃ D, D = 2 ^ c := ⟨_, rfl⟩
      have hI2 := hI.out (2 * D) (by rw [hD, Nat.pow_succ, Nat.mul_comm])
      obtain ⟨hI3, hI4, hI5⟩ := hI2
      obtain ⟨x, hx⟩ : ∃ x, x = r + D := ⟨_, rfl⟩
      have hx41 : x ≤ 2199023255552 := by omega
      have sh : IntKind.u64.wrap (2 ^ c) = (D : Int) := by
        rw [← wrap_u64n D (by omega)]; congr 1; rw [hD]; push_cast; rfl
      have sx : IntKind.u64.wrap ((r : Int) + (D : Int)) = (x : Int) := by
        rw [← wrap_u64n x (by omega)]; congr 1; omega
      obtain ⟨x0, hx0⟩ : ∃ y, y = x % 65536 := ⟨_, rfl⟩
      obtain ⟨x1, hx1⟩ : ∃ y, y = x / 65536 % 65536 := ⟨_, rfl⟩
      obtain ⟨x2, hx2⟩ : ∃ y, y = x / 65536 / 65536 := ⟨_, rfl⟩
      have i0 : (x : Int) % 65536 = (x0 : Int) := by omega
      have i1 : (x : Int) / 65536 % 65536 = (x1 : Int) := by omega
      have i2 : (x : Int) / 65536 / 65536 = (x2 : Int) := by omega
      have elim : (limbs x).map LV = [.int .u64 (x0 : Int), .int .u64 (x1 : Int), .int .u64 (x2 : Int), .int .u64 0, .int .u64 0, .int .u64 0, .int .u64 0, .int .u64 0, .int .u64 0, .int .u64 0, .int .u64 0, .int .u64 0] := by rw [hx0, hx1, hx2]; rfl
      have HLx : Hid (Lim (limbs x)) := limbs_lim x (by omega)
      have HVx : Hid (val (limbs x) = x) := limbs_val x
      have hsq : Hid (∀ n, n = 12 → val (limbs x) * val (limbs x) < 65536 ^ n) := by
        rintro n rfl
        rw [HVx.out]
        exact Nat.lt_of_le_of_lt (Nat.mul_le_mul hx41 hx41) (by decide)
      have hc1 : Hid (∀ W, Calls Tryd.prog 39 #[.agg #[.int .u64 (x0 : Int), .int .u64 (x1 : Int), .int .u64 (x2 : Int), .int .u64 0, .int .u64 0, .int .u64 0, .int .u64 0, .int .u64 0, .int .u64 0, .int .u64 0, .int .u64 0, .int .u64 0], .agg #[.int .u64 (x0 : Int), .int .u64 (x1 : Int), .int .u64 (x2 : Int), .int .u64 0, .int .u64 0, .int .u64 0, .int .u64 0, .int .u64 0, .int .u64 0, .int .u64 0, .int .u64 0, .int .u64 0]] W fun e w' => TimesOk (limbs x) (limbs x) e ∧ Below W.heap.size W w') := fun W => by
        have h := h39.out (limbs x) (limbs x) W HLx.out HLx.out hsq.out
        rw [elim] at h
        exact h
      have HI : Hid (r + 2 * D ≤ 2199023255552 ∧ r ^ 3 ≤ P ∧ P < (r + 2 * D) ^ 3) := ⟨hI3, hI4, hI5⟩
      have HXD : Hid (x = r + D) := hx
      have HD : Hid (D = 2 ^ c) := hD
      have HNA : Hid (Blk (wr.alloc (.cells (([.int .u64 (x0 : Int), .int .u64 (x1 : Int), .int .u64 (x2 : Int), .int .u64 0, .int .u64 0, .int .u64 0, .int .u64 0, .int .u64 0, .int .u64 0, .int .u64 0, .int .u64 0, .int .u64 0] : List Value)).toArray 67)) wr.heap.size ((limbs x).map LV) 67) := by rw [elim]; exact Blk.new _ _ _
      have hsz0 := hbe.out.size
      have HBA : Hid (Blk (wr.alloc (.cells (([.int .u64 (x0 : Int), .int .u64 (x1 : Int), .int .u64 (x2 : Int), .int .u64 0, .int .u64 0, .int .u64 0, .int .u64 0, .int .u64 0, .int .u64 0, .int .u64 0, .int .u64 0, .int .u64 0] : List Value)).toArray 67)) w.heap.size ((want 3 p).map LV) 67 ∧ Below w.heap.size w (wr.alloc (.cells (([.int .u64 (x0 : Int), .int .u64 (x1 : Int), .int .u64 (x2 : Int), .int .u64 0, .int .u64 0, .int .u64 0, .int .u64 0, .int .u64 0, .int .u64 0, .int .u64 0, .int .u64 0, .int .u64 0] : List Value)).toArray 67))) := ⟨hK.out.alloc _, hbe.out.alloc hsz0 _⟩
      clear hI hI3 hI4 hI5 hx hD hx0 hx1 hx2 elim hK hbe hsq
      go_wp2_with fail
      refine Calls.mono (hc1.out _) ?_
      rintro e w1 ⟨⟨y, rfl, hly, hvy⟩, hb1⟩
      obtain ⟨hBw, hbw⟩ := HBA.out
      have hNA := HNA.out
      clear HBA HNA hc1
      generalize wr.alloc _ = W0 at *
      obtain ⟨N, hN⟩ : ∃ N, N = wr.heap.size := ⟨_, rfl⟩
      rw [← hN] at hNA
      simp only [← hN]
      clear hN
      have hBw1 := hBw.below hb1 hBw.lt
      have hNA1 := hNA.below hb1 hNA.lt
      have hbw1 : Below w.heap.size w w1 := hbw.trans (hb1.mono hbw.size)
      clear hb1 hBw hNA hbw
      have HVY : Hid (val y = x * x) := by show _ = _; rw [hvy, HVx.out]
      have HLY : Hid (Lim y) := hly
      have hi67 : (Tryd.prog.info? 67).map (·.size) = some (y.map LV).length := by rw [List.length_map, hly.1]; exact size67
      have hth : (w1.alloc (.cells #[Value.int .u64 0, .int .u64 0, .int .u64 0, .int .u64 0, .int .u64 0, .int .u64 0, .int .u64 0, .int .u64 0, .int .u64 0, .int .u64 0, .int .u64 0, .int .u64 0] 67)).there w1.heap.size 0 (y.map LV).length := (Blk.new w1 [Value.int .u64 0, .int .u64 0, .int .u64 0, .int .u64 0, .int .u64 0, .int .u64 0, .int .u64 0, .int .u64 0, .int .u64 0, .int .u64 0, .int .u64 0, .int .u64 0] 67).there 0 _ (by rw [List.length_map, hly.1]; simp)
      have hone : Hid (∀ v ∈ y.map LV, v.oneCell' = true) := mapLV_one y
      have hY : Blk ((w1.alloc (.cells #[Value.int .u64 0, .int .u64 0, .int .u64 0, .int .u64 0, .int .u64 0, .int .u64 0, .int .u64 0, .int .u64 0, .int .u64 0, .int .u64 0, .int .u64 0, .int .u64 0] 67)).setCells w1.heap.size 0 (y.map LV)) w1.heap.size (y.map LV) 67 := by
        have h := Blk.setCells (y.map LV) 0 (Blk.new w1 [Value.int .u64 0, .int .u64 0, .int .u64 0, .int .u64 0, .int .u64 0, .int .u64 0, .int .u64 0, .int .u64 0, .int .u64 0, .int .u64 0, .int .u64 0, .int .u64 0] 67) (by rw [List.length_map, hly.1]; simp)
        rw [show over [Value.int .u64 0, .int .u64 0, .int .u64 0, .int .u64 0, .int .u64 0, .int .u64 0, .int .u64 0, .int .u64 0, .int .u64 0, .int .u64 0, .int .u64 0, .int .u64 0] 0 (y.map LV) = y.map LV by simp [over, hly.1]] at h
        exact h
      have hlt1 := hBw1.lt
      have hlt2 := hNA1.lt
      have hBw2 := (hBw1.alloc (.cells #[Value.int .u64 0, .int .u64 0, .int .u64 0, .int .u64 0, .int .u64 0, .int .u64 0, .int .u64 0, .int .u64 0, .int .u64 0, .int .u64 0, .int .u64 0, .int .u64 0] 67)).setCells_ne w1.heap.size (by omega) 0 (y.map LV)
      have hNA2 := (hNA1.alloc (.cells #[Value.int .u64 0, .int .u64 0, .int .u64 0, .int .u64 0, .int .u64 0, .int .u64 0, .int .u64 0, .int .u64 0, .int .u64 0, .int .u64 0, .int .u64 0, .int .u64 0] 67)).setCells_ne w1.heap.size (by omega) 0 (y.map LV)
      have hbw2 := Below.setCells (hbw1.alloc hbw1.size (.cells #[Value.int .u64 0, .int .u64 0, .int .u64 0, .int .u64 0, .int .u64 0, .int .u64 0, .int .u64 0, .int .u64 0, .int .u64 0, .int .u64 0, .int .u64 0, .int .u64 0] 67)) (b := w1.heap.size) hbw1.size 0 (y.map LV)
      clear hvy hly hBw1 hNA1 hbw1
      go_upto_region 10 with (first
        | ((with_reducible refine wpL_store 67 w1.heap.size 0 (y.map LV) ?_ ?_ hth hi67 hone.out ?_); (rfl); (rfl); (simp only [Act.put])))
      clear hth
      generalize (w1.alloc _).setCells w1.heap.size 0 (y.map LV) = W2 at *
      obtain ⟨M, hM⟩ : ∃ M, M = w1.heap.size := ⟨_, rfl⟩
      rw [← hM] at hY hlt1 hlt2
      simp only [← hM]
      clear hM
      have hiw : (Tryd.prog.info? 67).map (·.size) = some ((want 3 p).map LV).length := by rw [List.length_map, HWL.out.1]; exact size67
      have hia : (Tryd.prog.info? 67).map (·.size) = some ((limbs x).map LV).length := size67
      have hry := hY.range
      have hra := hNA2.range
      have hcu : Hid (∀ n, n = 12 → val y * val (limbs x) < 65536 ^ n) := by
        rintro n rfl
        rw [HVx.out, HVY.out]
        exact Nat.lt_of_le_of_lt (Nat.mul_le_mul (Nat.mul_le_mul hx41 hx41) hx41) (by decide)
      have hc2 : Hid (Calls Tryd.prog 39 #[.agg (y.map LV).toArray, .agg ((limbs x).map LV).toArray] W2 fun e w' => TimesOk y (limbs x) e ∧ Below W2.heap.size W2 w') := h39.out y (limbs x) W2 HLY.out HLx.out hcu.out
      clear hcu
      obtain ⟨la, hla⟩ : ∃ la, la = limbs x := ⟨_, rfl⟩
      rw [← hla] at hc2 hra hia
      have HLA : Hid (val la = x) := by rw [hla]; exact HVx
      clear hla HVx HLx hNA2
      go_wp2_with (first
        | ((with_reducible refine wpL_load 67 M 0 (y.map LV) _ ?_ hry Tryd.underlying67 ?_ hi67 ?_); (rfl); (rfl); (simp only [Act.put, List.setIfInBounds_toArray, List.set_cons_zero, List.set_cons_succ]))
        | ((with_reducible refine wpL_load 67 N 0 (la.map LV) _ ?_ hra Tryd.underlying67 ?_ hia ?_); (rfl); (rfl); (simp only [Act.put, List.setIfInBounds_toArray, List.set_cons_zero, List.set_cons_succ])))
      refine Calls.mono hc2.out ?_
      rintro e w3 ⟨⟨z, rfl, hlz, hvz⟩, hb3⟩
      have HVZ : Hid (val z = x * x * x) := by show _ = _; rw [hvz, HLA.out, HVY.out]
      have HLZ : Hid (Lim z) := hlz
      have hBw3 := hBw2.below hb3 hBw2.lt
      have hY3 := hY.below hb3 hY.lt
      have hbw3 : Below w.heap.size w w3 := hbw2.trans (hb3.mono hbw2.size)
      have hiz : (Tryd.prog.info? 67).map (·.size) = some (z.map LV).length := by rw [List.length_map, hlz.1]; exact size67
      have hthz : w3.there M 0 (z.map LV).length := hY3.there 0 _ (by rw [List.length_map, List.length_map, hlz.1, HLY.out.1]; omega)
      have honez : Hid (∀ v ∈ z.map LV, v.oneCell' = true) := mapLV_one z
      have hZ := Blk.setCells (z.map LV) 0 hY3 (by rw [List.length_map, List.length_map, hlz.1, HLY.out.1]; omega)
      rw [show over (y.map LV) 0 (z.map LV) = z.map LV by simp [over, hlz.1, HLY.out.1]] at hZ
      have hBw4 := hBw3.setCells_ne M (by omega) 0 (z.map LV)
      have hbw4 := Below.setCells hbw3 (b := M) (by omega) 0 (z.map LV)
      clear hry hra hc2 hvz hlz hb3 hBw2 hY hbw2 hBw3 hY3 hbw3 HVY HLA hi67 hia
      go_upto_region 12 with (first
        | ((with_reducible refine wpL_store 67 M 0 (z.map LV) ?_ ?_ hthz hiz honez.out ?_); (rfl); (rfl); (simp only [Act.put])))
      generalize w3.setCells M 0 (z.map LV) = W5 at *
      have hrw := hBw4.range
      have hrz := hZ.range
      have hc5 : Hid (Calls Tryd.prog 40 #[.agg ((want 3 p).map LV).toArray, .agg (z.map LV).toArray] W5 fun e w' => e = .returned (.bool (decide (P < x * x * x))) ∧ Below W5.heap.size W5 w') := by
        have h := h40.out (want 3 p) z W5 HWL.out HLZ.out
        rw [HW.out, HVZ.out] at h
        exact h
      go_wp2_with (first
        | ((with_reducible refine wpL_load 67 w.heap.size 0 ((want 3 p).map LV) _ ?_ hrw Tryd.underlying67 ?_ hiw ?_); (rfl); (rfl); (simp only [Act.put, List.setIfInBounds_toArray, List.set_cons_zero, List.set_cons_succ]))
        | ((with_reducible refine wpL_load 67 M 0 (z.map LV) _ ?_ hrz Tryd.underlying67 ?_ hiz ?_); (rfl); (rfl); (simp only [Act.put, List.setIfInBounds_toArray, List.set_cons_zero, List.set_cons_succ])))
      refine Calls.mono hc5.out ?_
      rintro e w6 ⟨rfl, hb6⟩
      have hBw6 := hBw4.below hb6 hBw4.lt
      have hbw6 : Below w.heap.size w w6 := hbw4.trans (hb6.mono hbw4.size)
      have hpw : x * x * x = x ^ 3 := by rw [Nat.pow_succ, Nat.pow_two]
      rw [hpw]
      clear hrw hrz hc5 hb6 hZ hBw4 hbw4 hiz hthz HVZ HLZ hpw
      rcases Nat.lt_or_ge P (x ^ 3) with hc | hc
      · have hd : decide (P < x ^ 3) = true := decide_eq_true hc
        rw [hd]
        have HN : Hid (∀ E, E = 2 ^ c → r + E ≤ 2199023255552 ∧ r ^ 3 ≤ P ∧ P < (r + E) ^ 3) := by
          intro E hE
          obtain ⟨a1, a2, a3⟩ := HI.out
          rw [hE, ← HD.out]
          exact ⟨by omega, a2, by rw [← HXD.out]; exact hc⟩
        clear hc hd HI
        go_wp2
        go_roundw
        case rel => exact ⟨r, c, rfl, by go_num, by omega, HN, hBw6, hbw6⟩
        case measure => simp [intOf]
      · have hd : decide (P < x ^ 3) = false := decide_eq_false (by omega)
        rw [hd]
        have HN : Hid (∀ E, E = 2 ^ c → x + E ≤ 2199023255552 ∧ x ^ 3 ≤ P ∧ P < (x + E) ^ 3) := by
          intro E hE
          obtain ⟨a1, a2, a3⟩ := HI.out
          have h1 := HXD.out
          rw [hE, ← HD.out]
          refine ⟨by omega, hc, ?_⟩
          have h2 : x + D = r + 2 * D := by omega
          rw [h2]; exact a3
        clear hc hd HI
        go_wp2
        go_roundw
        case rel => exact ⟨x, c, rfl, by go_num, by omega, HN, hBw6, hbw6⟩
        case measure => simp [intOf]
    · have hb0 : b = 0 := by omega
      subst hb0
      obtain ⟨a1, a2, a3⟩ := hI.out 1 (by simp)
      obtain ⟨r1, r2⟩ := HR.out
      have hrR : r = R := root_one 3 r R P a2 a3 r1 r2
      subst hrR
      have HU : Hid (Value.int .u32 ((r : Int) % 4294967296) = U (BitVec.ofNat 32 r)) := by
        show _ = _
        unfold U; congr 1
      clear a1 a2 a3 r1 r2 hI
      go_wp2
      go_ret
      exact ⟨by rw [← HU.out]; rfl, hbe.out⟩
end Go.Proofs.YtpgckbjcacagdaaDoor
