/- Formed maps. -/
import Derived.Test.YthinldcblbgdnaaDoorDist
namespace Go.Proofs.YthinldcblbgdnaaDoor
open Go.RowKit
theorem lt_of_cell {w : World} {p : Addr} {v : Value} (h : w.cell? p = some v) : p.block < w.heap.size := by
  rcases Nat.lt_or_ge p.block w.heap.size with h1 | h1
  · exact h1
  · simp [World.cell?, h1] at h
/-- v is a slice of the integers zs. -/
def IntsAt (w : World) (v : Value) (zs : List Int) : Prop :=
  ∃ p cap, v = .slice p zs.length cap ∧ zs.length ≤ cap ∧ (p = none → cap = 0) ∧ (zs ≠ [] → ∃ sb so, p = some ⟨sb, so, none⟩ ∧ ∀ i, i < zs.length → w.cell? ⟨sb, so + i, none⟩ = some (.int .i64 (zs.getD i 0)))
theorem IntsAt.below {w w' : World} {v : Value} {zs : List Int} (h : IntsAt w v zs) (hb : Below w.heap.size w w') : IntsAt w' v zs := by
  obtain ⟨p, cap, rfl, hc, hz, h⟩ := h
  refine ⟨p, cap, rfl, hc, hz, fun hn => ?_⟩
  obtain ⟨sb, so, rfl, hcell⟩ := h hn
  exact ⟨sb, so, rfl, fun i hi => by rw [hb.cell (p := ⟨sb, so + i, none⟩) (lt_of_cell (hcell i hi))]; exact hcell i hi⟩
theorem IntsAt.pos {w : World} {p : Option Addr} {n cap : Nat} {zs : List Int} (h : IntsAt w (.slice p n cap) zs) (i : Nat) (hi : i < n) : ∃ sb so, p = some ⟨sb, so, none⟩ ∧ ∀ i, i < n → w.cell? ⟨sb, so + i, none⟩ = some (.int .i64 (zs.getD i 0)) := by
  obtain ⟨q, c, he, hc, hz, h⟩ := h
  simp at he
  obtain ⟨rfl, rfl, rfl⟩ := he
  exact h (by intro h0; subst h0; simp at hi)
/-- A map: its sides, tiles and ore. -/
structure Mp where
  W : Int
  H : Int
  ts : List Int
  os : List Int
/-- v is the map m. -/
def MapAt (w : World) (v : Value) (m : Mp) : Prop := ∃ p c q d, v = .agg #[.int .i64 m.W, .int .i64 m.H, .slice p m.ts.length c, .slice q m.os.length d] ∧ IntsAt w (.slice p m.ts.length c) m.ts ∧ IntsAt w (.slice q m.os.length d) m.os
theorem MapAt.below {w w' : World} {v : Value} {m : Mp} (h : MapAt w v m) (hb : Below w.heap.size w w') : MapAt w' v m := by
  obtain ⟨p, c, q, d, rfl, h1, h2⟩ := h
  exact ⟨p, c, q, d, rfl, h1.below hb, h2.below hb⟩
/-- The first k tiles and amounts fit. -/
def tilesTo (m : Mp) : Nat → Bool
  | 0 => true
  | k + 1 => tilesTo m k && isTile (m.ts.getD k 0) (m.os.getD k 0)
def formed (m : Mp) : Bool := isSide m.W && isSide m.H && ((m.ts.length : Int) == m.W * m.H) && ((m.os.length : Int) == m.W * m.H) && tilesTo m m.ts.length
theorem tilesTo_false {m : Mp} {i : Nat} (h : isTile (m.ts.getD i 0) (m.os.getD i 0) = false) : ∀ n, i < n → tilesTo m n = false
  | 0, hn => by omega
  | n + 1, hn => by
    rcases Nat.lt_or_ge i n with h1 | h1
    · rw [tilesTo, tilesTo_false h n h1, Bool.false_and]
    · obtain rfl : i = n := by omega
      rw [tilesTo, h, Bool.and_false]
/-- A map was laid into a block of its own. -/
theorem map_box (w : World) (a b : Int) (s t : Value) (W : World) (B : Nat) (hW : W = w.alloc (.cells #[Value.int .i64 a, .int .i64 b, s, t] 24)) (hB : B = w.heap.size) :
    (∀ w', Below W.heap.size W w' → w'.cell? ⟨B, 0, none⟩ = some (.int .i64 a) ∧ w'.cell? ⟨B, 1, none⟩ = some (.int .i64 b) ∧ w'.cell? ⟨B, 2, none⟩ = some s ∧ w'.cell? ⟨B, 3, none⟩ = some t) ∧ (∀ w', Below W.heap.size W w' → Below w.heap.size w w') := by
  have hsz : W.heap.size = B + 1 := by rw [hW, hB]; simp
  have hbe : Below w.heap.size w W := by rw [hW]; exact (Below.refl _ _).alloc (Nat.le_refl _) _
  have b1 : Blk W B [Value.int .i64 a, .int .i64 b, s, t] 24 := by rw [hW, hB]; exact Blk.new _ _ _
  refine ⟨fun w' h => ?_, fun w' h => hbe.trans (h.mono (by omega))⟩
  have c1 := b1.below h (by omega)
  exact ⟨c1.cell 0, c1.cell 1, c1.cell 2, c1.cell 3⟩
theorem side_of {n : Int} (h : isSide n = true) : 4 ≤ n ∧ n ≤ 20 := by simpa [isSide] using h
theorem prod_bound {a b : Int} (ha : 4 ≤ a ∧ a ≤ 20) (hb : 4 ≤ b ∧ b ≤ 20) : 16 ≤ a * b ∧ a * b ≤ 400 := by
  have h1 := Int.mul_le_mul_of_nonneg_left hb.2 (show 0 ≤ a by omega)
  have h2 := Int.mul_le_mul_of_nonneg_left hb.1 (show 0 ≤ a by omega)
  omega
set_option maxHeartbeats 4000000 in
theorem formed_any (m : Mp) (v : Value) (w : World) (hm : MapAt w v m) : Calls Tryd.prog 15 #[v] w fun e w' => Out w (.bool (formed m)) e w' := by
  have h36 : Hid (∀ n W, Calls Tryd.prog 36 #[.int .i64 n] W fun e w' => e = .returned (.bool (isSide n)) ∧ w' = W) := side_any
  have h37 : Hid (∀ t o W, Calls Tryd.prog 37 #[.int .i64 t, .int .i64 o] W fun e w' => e = .returned (.bool (isTile t o)) ∧ w' = W) := tile_any
  obtain ⟨p, c, q, d, rfl, hT, hO⟩ := hm
  obtain ⟨a, b, ts, os⟩ := m
  have HF : Hid (∀ r, formed ⟨a, b, ts, os⟩ = r → True) := fun _ _ => trivial
  unfold Out
  obtain ⟨R, hR⟩ : ∃ R, formed ⟨a, b, ts, os⟩ = R := ⟨_, rfl⟩
  rw [hR]
  have HR : Hid ((isSide a && isSide b && ((ts.length : Int) == a * b) && ((os.length : Int) == a * b) && tilesTo ⟨a, b, ts, os⟩ ts.length) = R) := hR
  simp only at hT hO ⊢
  obtain ⟨M, hM⟩ : ∃ M, M = ts.length := ⟨_, rfl⟩
  obtain ⟨N, hN⟩ : ∃ N, N = os.length := ⟨_, rfl⟩
  rw [← hM] at hT
  rw [← hN] at hO
  rw [← hM, ← hN] at HR ⊢
  have HT := hid (fun W (h : Below w.heap.size w W) => hT.below h)
  have HO := hid (fun W (h : Below w.heap.size w W) => hO.below h)
  clear hR HF hM hN hT hO
  rcases Bool.eq_false_or_eq_true (isSide a) with ha | ha
  · rcases Bool.eq_false_or_eq_true (isSide b) with hb | hb
    · have e1 := h36.out a
      have e2 := h36.out b
      rw [ha] at e1
      rw [hb] at e2
      have E1 := hid e1
      have E2 := hid e2
      have HR2 : Hid ((((M : Int) == a * b) && ((N : Int) == a * b) && tilesTo ⟨a, b, ts, os⟩ M) = R) := by have := HR.out; rwa [ha, hb, Bool.true_and, Bool.true_and] at this
      have pb := prod_bound (side_of ha) (side_of hb)
      obtain ⟨p1, p2⟩ := pb
      clear e1 e2 h36 ha hb HR
      have q1 : -9223372036854775808 ≤ a * b := by omega
      have q2 : a * b ≤ 9223372036854775807 := by omega
      rcases Bool.eq_false_or_eq_true ((M : Int) == a * b) with hM | hM
      · rcases Bool.eq_false_or_eq_true ((N : Int) == a * b) with hN | hN
        · rw [hM, hN, Bool.true_and, Bool.true_and] at HR2
          have hM' : (M : Int) = a * b := by simpa using hM
          have hN' : (N : Int) = a * b := by simpa using hN
          have hNM : N = M := by omega
          have hMp : 0 < M := by omega
          have hM4 : (M : Int) ≤ 400 := by omega
          subst hNM
          have HMS := hid (fun (_ : Nat) => hM')
          clear hM hN hM' hN'
          obtain ⟨sb, so, rfl, -⟩ := (HT.out w (Below.refl _ _)).pos 0 hMp
          obtain ⟨rb, ro, rfl, -⟩ := (HO.out w (Below.refl _ _)).pos 0 hMp
          go_enter Tryd.func15, Tryd.ntmps15
          go_upto_region 1 with (fail)
          obtain ⟨W, hW⟩ : ∃ W, W = w.alloc (.cells #[Value.int .i64 a, .int .i64 b, .slice (some ⟨sb, so, none⟩) N c, .slice (some ⟨rb, ro, none⟩) N d] 24) := ⟨_, rfl⟩
          obtain ⟨B, hB⟩ : ∃ B, B = w.heap.size := ⟨_, rfl⟩
          rw [← hW, ← hB]
          obtain ⟨hk, hbe⟩ := map_box w a b _ _ W B hW hB
          obtain ⟨a0, a1, a2, a3⟩ := hk W (Below.refl _ _)
          have HBE := hid (hbe W (Below.refl _ _))
          have HC : Hid (∀ i, i < N → W.cell? ⟨sb, so + i, none⟩ = some (.int .i64 (ts.getD i 0))) := by
            obtain ⟨sb', so', he, hc⟩ := (HT.out W HBE.out).pos 0 hMp
            simp at he
            obtain ⟨rfl, rfl⟩ := he
            exact hc
          have HD : Hid (∀ i, i < N → W.cell? ⟨rb, ro + i, none⟩ = some (.int .i64 (os.getD i 0))) := by
            obtain ⟨sb', so', he, hc⟩ := (HO.out W HBE.out).pos 0 hMp
            simp at he
            obtain ⟨rfl, rfl⟩ := he
            exact hc
          clear hW hB hk hbe HT HO
          obtain ⟨S, hS⟩ : ∃ S, a * b = S := ⟨_, rfl⟩
          have hNS : (N : Int) = S := by rw [← hS]; exact HMS.out 0
          go_wp2_with fail
          refine Calls.mono (E1.out _) ?_
          rintro e w1 ⟨rfl, rfl⟩
          go_wp2_with fail
          refine Calls.mono (E2.out _) ?_
          rintro e w1 ⟨rfl, rfl⟩
          have hSe : ((N : Int) != a * b) = false := by rw [hS, hNS]; simp
          clear hNS hS
          go_wp2
          go_loopw [36] (fun iv wr => ∃ i : Nat, iv = .int .i64 (i : Int) ∧ i ≤ N ∧ wr = w1 ∧ Hid (tilesTo ⟨a, b, ts, os⟩ i = true)) (fun iv _ => N - (intOf iv).toNat)
          case atStart => exact ⟨0, rfl, by omega, rfl, rfl⟩
          case round =>
            obtain ⟨i, rfl, hi, rfl, HI⟩ := hrel
            by_cases hl : i < N
            · have hl' : (i : Int) < (N : Int) := by omega
              have c1 := HC.out i hl
              have c2 := HD.out i hl
              have e37 := h37.out (ts.getD i 0) (os.getD i 0)
              have HI2 : Hid (isTile (ts.getD i 0) (os.getD i 0) = true → tilesTo ⟨a, b, ts, os⟩ (i + 1) = true) := fun h => by rw [tilesTo, HI.out]; exact h
              have HI3 : Hid (isTile (ts.getD i 0) (os.getD i 0) = false → R = false) := fun h => by rw [← HR2.out]; exact tilesTo_false (m := ⟨a, b, ts, os⟩) h N hl
              generalize ts.getD i 0 = t at *
              generalize os.getD i 0 = o at *
              rcases Bool.eq_false_or_eq_true (isTile t o) with h | h
              · rw [h] at e37
                have HI4 := hid (HI2.out h)
                have E37 := hid e37
                clear e37 HI2 HI3 h HI
                go_wp2_with fail
                refine Calls.mono (E37.out _) ?_
                rintro e w2 ⟨rfl, rfl⟩
                go_wp2
                go_roundw
                case rel => exact ⟨i + 1, by simp, by omega, by trivial, HI4⟩
                case measure => simp [intOf]; omega
              · rw [h] at e37
                have hr := HI3.out h
                subst hr
                have E37 := hid e37
                clear e37 HI2 HI3 h HI
                go_wp2_with fail
                refine Calls.mono (E37.out _) ?_
                rintro e w2 ⟨rfl, rfl⟩
                go_wp2
                go_ret
                exact ⟨rfl, HBE.out⟩
            · obtain rfl : i = N := by omega
              have hl' : ((i : Int) < (i : Int)) = False := by simp
              have hr := HR2.out.symm.trans HI.out
              subst hr
              go_wp2
              go_ret
              exact ⟨rfl, HBE.out⟩
        · rw [hM, hN, Bool.true_and, Bool.false_and] at HR2
          have hr : R = false := HR2.out.symm
          subst hr
          have hM2 : ((M : Int) != a * b) = false := by rw [bne, hM]; rfl
          have hN2 : ((N : Int) != a * b) = true := by rw [bne, hN]; rfl
          clear HR2 HT HO h37 hM hN
          go_enter Tryd.func15, Tryd.ntmps15
          go_wp2_with fail
          refine Calls.mono (E1.out _) ?_
          rintro e w1 ⟨rfl, rfl⟩
          go_wp2_with fail
          refine Calls.mono (E2.out _) ?_
          rintro e w1 ⟨rfl, rfl⟩
          go_wp2
          go_ret
          exact ⟨rfl, (Below.refl _ _).alloc (Nat.le_refl _) _⟩
      · rw [hM, Bool.false_and, Bool.false_and] at HR2
        have hr : R = false := HR2.out.symm
        subst hr
        have hM2 : ((M : Int) != a * b) = true := by rw [bne, hM]; rfl
        clear HR2 HT HO h37 hM
        go_enter Tryd.func15, Tryd.ntmps15
        go_wp2_with fail
        refine Calls.mono (E1.out _) ?_
        rintro e w1 ⟨rfl, rfl⟩
        go_wp2_with fail
        refine Calls.mono (E2.out _) ?_
        rintro e w1 ⟨rfl, rfl⟩
        go_wp2
        go_ret
        exact ⟨rfl, (Below.refl _ _).alloc (Nat.le_refl _) _⟩
    · have e1 := h36.out a
      have e2 := h36.out b
      rw [ha] at e1
      rw [hb] at e2
      have E1 := hid e1
      have E2 := hid e2
      have hr : R = false := by have := HR.out; rwa [ha, hb, Bool.and_false, Bool.false_and, Bool.false_and, Bool.false_and, eq_comm] at this
      subst hr
      clear e1 e2 h36 ha hb HR HT HO h37
      go_enter Tryd.func15, Tryd.ntmps15
      go_wp2_with fail
      refine Calls.mono (E1.out _) ?_
      rintro e w1 ⟨rfl, rfl⟩
      go_wp2_with fail
      refine Calls.mono (E2.out _) ?_
      rintro e w1 ⟨rfl, rfl⟩
      go_wp2
      go_ret
      exact ⟨rfl, (Below.refl _ _).alloc (Nat.le_refl _) _⟩
  · have e1 := h36.out a
    rw [ha] at e1
    have E1 := hid e1
    have hr : R = false := by have := HR.out; rwa [ha, Bool.false_and, Bool.false_and, Bool.false_and, Bool.false_and, eq_comm] at this
    subst hr
    clear e1 h36 ha HR HT HO h37
    go_enter Tryd.func15, Tryd.ntmps15
    go_wp2_with fail
    refine Calls.mono (E1.out _) ?_
    rintro e w1 ⟨rfl, rfl⟩
    go_wp2
    go_ret
    exact ⟨rfl, (Below.refl _ _).alloc (Nat.le_refl _) _⟩
end Go.Proofs.YthinldcblbgdnaaDoor
