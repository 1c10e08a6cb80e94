/- The reference: Formed, Inside, Tile, Free. -/
import Derived.Test.YthinldcblbgdnaaDoorSmall
import Derived.Test.YthinldcblbgdnaaDoorFree
namespace Go.Proofs.YthinldcblbgdnaaDoor
open Go.RowKit
theorem tile_cases (t o : Int) : (isTile t o = false ∧ t < 0) ∨ (isTile t o = false ∧ (t < 0) = False ∧ 2 < t) ∨ (isTile t o = false ∧ (t < 0) = False ∧ (2 < t) = False ∧ o < 0) ∨ (isTile t o = false ∧ (t < 0) = False ∧ (2 < t) = False ∧ (o < 0) = False ∧ 1000 < o) ∨ (isTile t o = false ∧ (t < 0) = False ∧ (2 < t) = False ∧ (o < 0) = False ∧ (1000 < o) = False ∧ 0 < o ∧ (t != 2) = true) ∨ (isTile t o = true ∧ (t < 0) = False ∧ (2 < t) = False ∧ (o < 0) = False ∧ (1000 < o) = False ∧ 0 < o ∧ (t != 2) = false) ∨ (isTile t o = true ∧ (t < 0) = False ∧ (2 < t) = False ∧ (o < 0) = False ∧ (1000 < o) = False ∧ (0 < o) = False) := by
  have ht : (isTile t o = true ↔ ((t = 0 ∨ t = 1) ∧ o = 0) ∨ (t = 2 ∧ 0 ≤ o ∧ o ≤ 1000)) := by
    unfold isTile
    simp only [Bool.or_eq_true, Bool.and_eq_true, beq_iff_eq, decide_eq_true_eq]
    omega
  have hf : (isTile t o = false ↔ ¬ (((t = 0 ∨ t = 1) ∧ o = 0) ∨ (t = 2 ∧ 0 ≤ o ∧ o ≤ 1000))) := by rw [← ht]; simp
  rw [ht, hf]
  simp only [eq_iff_iff, iff_false, bne_iff_ne, ne_eq, bne_eq_false_iff_eq]
  omega
set_option maxRecDepth 20000 in
set_option maxHeartbeats 8000000 in
theorem refFormed_any (m : Mp) (v : Value) (w : World) (hm : MapAt w v m) : Calls Tryd.prog 16 #[v] w fun e w' => Out w (.bool (formed m)) e w' := by
  have h38 : Hid (∀ n W, Calls Tryd.prog 38 #[.int .i64 n] W fun e w' => e = .returned (.bool (isSide n)) ∧ w' = W) := refSide_any
  obtain ⟨p, c, q, d, rfl, hT, hO⟩ := hm
  obtain ⟨a, b, ts, os⟩ := m
  unfold Out
  obtain ⟨R, hR⟩ : ∃ R, formed ⟨a, b, ts, os⟩ = R := ⟨_, rfl⟩
  rw [hR]
  have HR : Hid ((isSide a && isSide b && ((ts.length : Int) == a * b) && ((os.length : Int) == a * b) && tilesTo ⟨a, b, ts, os⟩ ts.length) = R) := hR
  simp only at hT hO ⊢
  obtain ⟨M, hM⟩ : ∃ M, M = ts.length := ⟨_, rfl⟩
  obtain ⟨N, hN⟩ : ∃ N, N = os.length := ⟨_, rfl⟩
  rw [← hM] at hT
  rw [← hN] at hO
  rw [← hM, ← hN] at HR ⊢
  have HT := hid (fun W (h : Below w.heap.size w W) => hT.below h)
  have HO := hid (fun W (h : Below w.heap.size w W) => hO.below h)
  clear hR hM hN hT hO
  rcases Bool.eq_false_or_eq_true (isSide a) with ha | ha
  · rcases Bool.eq_false_or_eq_true (isSide b) with hb | hb
    · have e1 := h38.out a
      have e2 := h38.out b
      rw [ha] at e1
      rw [hb] at e2
      have E1 := hid e1
      have E2 := hid e2
      have HR2 : Hid ((((M : Int) == a * b) && ((N : Int) == a * b) && tilesTo ⟨a, b, ts, os⟩ M) = R) := by have := HR.out; rwa [ha, hb, Bool.true_and, Bool.true_and] at this
      have pb := prod_bound (side_of ha) (side_of hb)
      obtain ⟨p1, p2⟩ := pb
      clear e1 e2 h38 ha hb HR
      have q1 : -9223372036854775808 ≤ a * b := by omega
      have q2 : a * b ≤ 9223372036854775807 := by omega
      rcases Bool.eq_false_or_eq_true ((M : Int) == a * b) with hM | hM
      · rcases Bool.eq_false_or_eq_true ((N : Int) == a * b) with hN | hN
        · rw [hM, hN, Bool.true_and, Bool.true_and] at HR2
          have hM' : (M : Int) = a * b := by simpa using hM
          have hN' : (N : Int) = a * b := by simpa using hN
          have hNM : N = M := by omega
          have hMp : 0 < M := by omega
          have hM4 : (M : Int) ≤ 400 := by omega
          subst hNM
          have HMS := hid (fun (_ : Nat) => hM')
          clear hM hN hM' hN'
          obtain ⟨sb, so, rfl, -⟩ := (HT.out w (Below.refl _ _)).pos 0 hMp
          obtain ⟨rb, ro, rfl, -⟩ := (HO.out w (Below.refl _ _)).pos 0 hMp
          go_enter Tryd.func16, Tryd.ntmps16
          go_upto_region 1 with (fail)
          obtain ⟨W, hW⟩ : ∃ W, W = w.alloc (.cells #[Value.int .i64 a, .int .i64 b, .slice (some ⟨sb, so, none⟩) N c, .slice (some ⟨rb, ro, none⟩) N d] 24) := ⟨_, rfl⟩
          obtain ⟨B, hB⟩ : ∃ B, B = w.heap.size := ⟨_, rfl⟩
          rw [← hW, ← hB]
          obtain ⟨hk, hbe⟩ := map_box w a b _ _ W B hW hB
          obtain ⟨a0, a1, a2, a3⟩ := hk W (Below.refl _ _)
          have HBE := hid (hbe W (Below.refl _ _))
          have HC : Hid (∀ i, i < N → W.cell? ⟨sb, so + i, none⟩ = some (.int .i64 (ts.getD i 0))) := by
            obtain ⟨sb', so', he, hc⟩ := (HT.out W HBE.out).pos 0 hMp
            simp at he
            obtain ⟨rfl, rfl⟩ := he
            exact hc
          have HD : Hid (∀ i, i < N → W.cell? ⟨rb, ro + i, none⟩ = some (.int .i64 (os.getD i 0))) := by
            obtain ⟨sb', so', he, hc⟩ := (HO.out W HBE.out).pos 0 hMp
            simp at he
            obtain ⟨rfl, rfl⟩ := he
            exact hc
          clear hW hB hk hbe HT HO
          obtain ⟨S, hS⟩ : ∃ S, a * b = S := ⟨_, rfl⟩
          have hNS : (N : Int) = S := by rw [← hS]; exact HMS.out 0
          go_wp2_with fail
          refine Calls.mono (E1.out _) ?_
          rintro e w1 ⟨rfl, rfl⟩
          go_wp2_with fail
          refine Calls.mono (E2.out _) ?_
          rintro e w1 ⟨rfl, rfl⟩
          have hSe : ((N : Int) != a * b) = false := by rw [hS, hNS]; simp
          clear hNS hS
          go_wp2_with fail
          go_loopw [3] (fun iv wr => ∃ i : Nat, iv = .int .i64 (i : Int) ∧ i ≤ N ∧ wr = w1 ∧ Hid (tilesTo ⟨a, b, ts, os⟩ i = true)) (fun iv _ => N - (intOf iv).toNat)
          case atStart => exact ⟨0, rfl, by omega, rfl, rfl⟩
          case round =>
            obtain ⟨i, rfl, hi, rfl, HI⟩ := hrel
            by_cases hl : i < N
            · have hl' : (i : Int) < (N : Int) := by omega
              have hl0 : (0 : Int) ≤ (i : Int) := by omega
              have c1 := HC.out i hl
              have c2 := HD.out i hl
              have HI2 : Hid (isTile (ts.getD i 0) (os.getD i 0) = true → tilesTo ⟨a, b, ts, os⟩ (i + 1) = true) := fun h => by rw [tilesTo, HI.out]; exact h
              have HI3 : Hid (isTile (ts.getD i 0) (os.getD i 0) = false → R = false) := fun h => by rw [← HR2.out]; exact tilesTo_false (m := ⟨a, b, ts, os⟩) h N hl
              have hcase := tile_cases (ts.getD i 0) (os.getD i 0)
              generalize ts.getD i 0 = t at *
              generalize os.getD i 0 = o at *
              clear hSe q1 q2 p1 p2
              rcases hcase with ⟨g0, g1⟩ | ⟨g0, g1, g2⟩ | ⟨g0, g1, g2, g3⟩ | ⟨g0, g1, g2, g3, g4⟩ | ⟨g0, g1, g2, g3, g4, g5, g6⟩ | ⟨g0, g1, g2, g3, g4, g5, g6⟩ | ⟨g0, g1, g2, g3, g4, g5⟩
              iterate 5
                · have hr := HI3.out g0
                  subst hr
                  clear g0 HI2 HI3
                  go_wp2
                  go_ret
                  exact ⟨rfl, HBE.out⟩
              iterate 2
                · have HI4 := hid (HI2.out g0)
                  clear g0 HI2 HI3 HI
                  go_wp2
                  go_roundw
                  case rel => exact ⟨i + 1, by simp, by omega, by trivial, HI4⟩
                  case measure => simp [intOf]; omega
            · obtain rfl : i = N := by omega
              have hl' : ((i : Int) < (i : Int)) = False := by simp
              have hr := HR2.out.symm.trans HI.out
              subst hr
              go_wp2
              go_ret
              exact ⟨rfl, HBE.out⟩
        · rw [hM, hN, Bool.true_and, Bool.false_and] at HR2
          have hr : R = false := HR2.out.symm
          subst hr
          have hM2 : ((M : Int) != a * b) = false := by rw [bne, hM]; rfl
          have hN2 : ((N : Int) != a * b) = true := by rw [bne, hN]; rfl
          clear HR2 HT HO hM hN
          go_enter Tryd.func16, Tryd.ntmps16
          go_wp2_with fail
          refine Calls.mono (E1.out _) ?_
          rintro e w1 ⟨rfl, rfl⟩
          go_wp2_with fail
          refine Calls.mono (E2.out _) ?_
          rintro e w1 ⟨rfl, rfl⟩
          go_wp2
          go_ret
          exact ⟨rfl, (Below.refl _ _).alloc (Nat.le_refl _) _⟩
      · rw [hM, Bool.false_and, Bool.false_and] at HR2
        have hr : R = false := HR2.out.symm
        subst hr
        have hM2 : ((M : Int) != a * b) = true := by rw [bne, hM]; rfl
        clear HR2 HT HO hM
        go_enter Tryd.func16, Tryd.ntmps16
        go_wp2_with fail
        refine Calls.mono (E1.out _) ?_
        rintro e w1 ⟨rfl, rfl⟩
        go_wp2_with fail
        refine Calls.mono (E2.out _) ?_
        rintro e w1 ⟨rfl, rfl⟩
        go_wp2
        go_ret
        exact ⟨rfl, (Below.refl _ _).alloc (Nat.le_refl _) _⟩
    · have e1 := h38.out a
      have e2 := h38.out b
      rw [ha] at e1
      rw [hb] at e2
      have E1 := hid e1
      have E2 := hid e2
      have hr : R = false := by have := HR.out; rwa [ha, hb, Bool.and_false, Bool.false_and, Bool.false_and, Bool.false_and, eq_comm] at this
      subst hr
      clear e1 e2 h38 ha hb HR HT HO
      go_enter Tryd.func16, Tryd.ntmps16
      go_wp2_with fail
      refine Calls.mono (E1.out _) ?_
      rintro e w1 ⟨rfl, rfl⟩
      go_wp2_with fail
      refine Calls.mono (E2.out _) ?_
      rintro e w1 ⟨rfl, rfl⟩
      go_wp2
      go_ret
      exact ⟨rfl, (Below.refl _ _).alloc (Nat.le_refl _) _⟩
  · have e1 := h38.out a
    rw [ha] at e1
    have E1 := hid e1
    have hr : R = false := by have := HR.out; rwa [ha, Bool.false_and, Bool.false_and, Bool.false_and, Bool.false_and, eq_comm] at this
    subst hr
    clear e1 h38 ha HR HT HO
    go_enter Tryd.func16, Tryd.ntmps16
    go_wp2_with fail
    refine Calls.mono (E1.out _) ?_
    rintro e w1 ⟨rfl, rfl⟩
    go_wp2
    go_ret
    exact ⟨rfl, (Below.refl _ _).alloc (Nat.le_refl _) _⟩
end Go.Proofs.YthinldcblbgdnaaDoor
