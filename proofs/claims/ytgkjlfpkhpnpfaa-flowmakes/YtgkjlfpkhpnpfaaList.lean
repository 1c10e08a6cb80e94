/- What a field answers: List. -/
import Derived.Test.YtgkjlfpkhpnpfaaFar
namespace Go.Proofs.Ytgkjlfpkhpnpfaa
open Go.RowKit
/-- The numbers of the first n cells. -/
def rowV (m : Mp) (f : Cl → Option Nat) (n : Nat) : List Int := (List.range n).map fun i : Nat => farV f ((i : Int) % m.W, (i : Int) / m.W)
def listV (m : Mp) (f : Cl → Option Nat) : List Int := rowV m f (m.W * m.H).toNat
theorem rowV_length (m : Mp) (f : Cl → Option Nat) (n : Nat) : (rowV m f n).length = n := by unfold rowV; rw [List.length_map, List.length_range]
theorem rowV_next {m : Mp} {f : Cl → Option Nat} {a x y : Nat} (ha : m.W = (a : Int)) (hx : x < a) : rowV m f (y * a + (x + 1)) = rowV m f (y * a + x) ++ [farV f ((x : Int), (y : Int))] := by
  have e1 : (((y * a + x : Nat) : Int)) % m.W = (x : Int) := by
    rw [ha]
    have : (y * a + x) % a = x := by rw [Nat.mul_add_mod_self_right]; exact Nat.mod_eq_of_lt hx
    exact_mod_cast this
  have e2 : (((y * a + x : Nat) : Int)) / m.W = (y : Int) := by
    rw [ha]
    have : (y * a + x) / a = y := by rw [Nat.add_comm, Nat.add_mul_div_right _ _ (by omega), Nat.div_eq_of_lt hx, Nat.zero_add]
    exact_mod_cast this
  unfold rowV
  rw [show y * a + (x + 1) = (y * a + x) + 1 by omega, List.range_succ, List.map_append, List.map_cons, List.map_nil, e1, e2]
def OutI (w : World) (xs : List Int) (e : Ending) (w' : World) : Prop := ∃ s, e = .returned s ∧ OwnI w' w.heap.size s xs ∧ Below w.heap.size w w'
set_option maxHeartbeats 4000000 in
theorem list_nil (w : World) : Calls Try.prog 13 #[.pointer none] w fun e w' => OutI w [] e w' := by
  unfold OutI
  go_enter Try.func13, Try.ntmps13
  go_wp2
  go_ret
  exact ⟨_, rfl, OwnI.nil _ _, Below.refl _ _⟩
set_option maxRecDepth 4000 in
set_option maxHeartbeats 4000000 in
theorem list_any (m : Mp) (v : Value) (bl gs : List Cl) (f : Cl → Option Nat) (base : Nat) (w : World) (hF : FieldAt w base v m bl gs f) (hf : formed m = true) : Calls Try.prog 13 #[v] w fun e w' => OutI w (listV m f) e w' := by
  obtain ⟨f1, f2, -⟩ := formed_of hf
  have hp := prod_bound f1 f2
  obtain ⟨a, ha⟩ : ∃ a : Nat, m.W = (a : Int) := ⟨m.W.toNat, by omega⟩
  obtain ⟨b, hb⟩ : ∃ b : Nat, m.H = (b : Int) := ⟨m.H.toNat, by omega⟩
  have hab : listV m f = rowV m f (b * a) := by
    unfold listV
    rw [ha, hb, ← Int.natCast_mul, Int.toNat_natCast, Nat.mul_comm]
  have hba : b * a ≤ 400 := by
    have : ((b * a : Nat) : Int) ≤ 400 := by rw [Nat.mul_comm, Int.natCast_mul, ← ha, ← hb]; exact hp.2
    omega
  have h16 : Hid (∀ x y W, Below w.heap.size w W → Calls Try.prog 16 #[v, C x y] W fun e w' => Out W (.int .i64 (farV f (x, y))) e w') := fun x y W h => far_any m v bl gs f base x y W (hF.below h)
  obtain ⟨fb, bf, bn, rfl, -, h1, -, -⟩ := hF
  have HK : Hid (∀ W, Below w.heap.size w W → W.cell? ⟨fb, 0, none⟩ = some (.int .i64 (a : Int)) ∧ W.cell? ⟨fb, 1, none⟩ = some (.int .i64 (b : Int))) := fun W h => by
    have h2 := h1.below h h1.lt
    rw [ha, hb] at h2
    exact ⟨h2.cell 0, h2.cell 1⟩
  have HN : Hid (∀ x y, x < a → rowV m f (y * a + (x + 1)) = rowV m f (y * a + x) ++ [farV f ((x : Int), (y : Int))]) := fun x y h => rowV_next ha h
  have HL := hid (rowV_length m f)
  have H0 : Hid (rowV m f 0 = []) := hid rfl
  have ha20 : a ≤ 20 := by omega
  have hb20 : b ≤ 20 := by omega
  have HBA := hid hba
  rw [hab]
  clear hab hp f1 f2 ha hb h1 hf hba
  obtain ⟨L, hL⟩ : ∃ L, L = rowV m f := ⟨_, rfl⟩
  rw [← hL] at HN HL H0 ⊢
  obtain ⟨FV, hFV⟩ : ∃ FV, FV = farV f := ⟨_, rfl⟩
  rw [← hFV] at HN h16
  clear hL hFV
  unfold C Out OutI at *
  obtain ⟨B, hB⟩ : ∃ B, B = w.heap.size := ⟨_, rfl⟩
  rw [← hB] at h16 HK ⊢
  have HB0 : Hid (Below B w w) := Below.refl _ _
  have HO0 : Hid (OwnI w B (.slice none 0 0) (L (0 * a))) := by rw [Nat.zero_mul, H0.out]; exact OwnI.nil _ _
  obtain ⟨c0, c1⟩ := HK.out w HB0.out
  have hBw : B ≤ w.heap.size := by omega
  clear hB
  go_enter Try.func13, Try.ntmps13
  go_upto_region 5 with fail
  clear c0 c1
  go_loopw [12, 3] (fun iv lv wr => ∃ y : Nat, y ≤ b ∧ iv = .int .i64 (y : Int) ∧ Hid (Below B w wr) ∧ Hid (OwnI wr B lv (L (y * a)))) (fun iv _ _ => b - (intOf iv).toNat)
  case atStart => exact ⟨0, by omega, rfl, HB0, HO0⟩
  case round =>
    clear HB0 HO0
    obtain ⟨y, hy, rfl, HB1, HO1⟩ := hrel
    by_cases hl : y < b
    · have hl' : (y : Int) < (b : Int) := by omega
      obtain ⟨c0, c1⟩ := HK.out wr HB1.out
      have HYB := hid hl
      have HW1 : Hid (wrap64 ((y : Int) + 1) = (y : Int) + 1) := hid (wrap_small (by omega))
      have HO2 : Hid (OwnI wr B u3 (L (y * a + 0))) := HO1
      have HB2 := HB1
      clear hl hy
      go_upto_region 8 with fail
      clear c0 c1 hl'
      go_loopw [19, 3] (fun iv lv wr => ∃ x : Nat, x ≤ a ∧ iv = .int .i64 (x : Int) ∧ Hid (Below B w wr) ∧ Hid (OwnI wr B lv (L (y * a + x)))) (fun iv _ _ => a - (intOf iv).toNat)
      case atStart => exact ⟨0, by omega, rfl, HB2, HO2⟩
      case round =>
        clear HB1 HO1 HB2 HO2
        obtain ⟨x, hx, rfl, HB3, HO3⟩ := hrel
        by_cases hl : x < a
        · have hl' : (x : Int) < (a : Int) := by omega
          have HXA := hid hl
          have HW2 : Hid (wrap64 ((x : Int) + 1) = (x : Int) + 1) := hid (wrap_small (by omega))
          have HNX := hid (HN.out x y hl)
          have HLE := hid (HL.out (y * a + x))
          have HLB : Hid (y * a + x + 1 ≤ 400) := hid (by
            have h1 : (y + 1) * a ≤ b * a := Nat.mul_le_mul_right a HYB.out
            have h2 := HBA.out
            rw [Nat.succ_mul] at h1
            omega)
          clear hl hx
          go_wp2_with fail
          refine Calls.mono (h16.out (x : Int) (y : Int) wr HB3.out) ?_
          rintro e w4 ⟨rfl, hb4⟩
          have HB4 : Hid (Below B w w4) := HB3.out.trans (hb4.mono (Nat.le_trans hBw HB3.out.size))
          have HO4 : Hid (OwnI w4 B u3 (L (y * a + x))) := HO3.out.below hb4
          clear hb4 HB3 HO3 hl'
          obtain ⟨fv, hfv⟩ : ∃ fv, fv = FV ((x : Int), (y : Int)) := ⟨_, rfl⟩
          rw [← hfv] at HNX ⊢
          clear hfv
          obtain ⟨n, hn⟩ : ∃ n, n = y * a + x := ⟨_, rfl⟩
          have HNE := hid (fun (_ : Nat) => hn)
          rw [← hn] at HNX HO4 HLE HLB
          rw [show y * a + (x + 1) = n + 1 by omega] at HNX
          obtain ⟨qp, qc, rfl⟩ := HO4.out.form
          clear hn
          obtain ⟨Z, hZ⟩ : ∃ Z, Z = w4.alloc (.cells #[Value.int .i64 fv] 3) := ⟨_, rfl⟩
          have HZB : Hid (Below w4.heap.size w4 Z) := by rw [hZ]; exact (Below.refl _ _).alloc (Nat.le_refl _) _
          have HIZ : Hid (IntsAt Z (.slice (some ⟨w4.heap.size, 0, none⟩) 1 1) [fv]) := by rw [hZ]; exact ints_one _ _ _ rfl
          have HBZ : Hid (Below B w Z) := HB4.out.trans (HZB.out.mono (Nat.le_trans hBw HB4.out.size))
          have HOZ : Hid (OwnI Z B (.slice qp (L n).length qc) (L n)) := HO4.out.below HZB.out
          have HSZ : Hid (B ≤ Z.heap.size) := hid (by have := HBZ.out.size; have := HB4.out.size; omega)
          have HNN : Hid ((L n).length + [fv].length = n + 1) := hid (by rw [HLE.out]; rfl)
          have HN4 : Hid (n + 1 ≤ 1099511627776) := hid (by have := HLB.out; omega)
          rw [hZ] at HIZ HBZ HOZ HSZ
          clear hZ HZB
          go_upto_region 11 with (first
            | ((with_reducible refine wpL_appendN B (.slice qp (L n).length qc) (.slice (some ⟨w4.heap.size, 0, none⟩) 1 1) (L n) [fv] (n + 1) (List.cons_ne_nil _ _) HNN.out ?_ ?_ HOZ.out HIZ.out HN4.out HSZ.out ?_); (rfl); (rfl); (intro p5 c5 w5 ho5 hg5); (have HB5 : Hid (Below B w w5) := HBZ.out.trans (hg5.below HOZ.out HSZ.out)); (have HO5 := hid ho5); clear ho5 hg5; (simp only [Act.put, List.setIfInBounds_toArray, List.set_cons_zero, List.set_cons_succ])))
          rw [← HNX.out] at HO5
          go_wp2
          go_roundw
          case rel => exact ⟨x + 1, HXA.out, by rw [HW2.out]; simp, HB5, by rw [show y * a + (x + 1) = n + 1 by have := HNE.out 0; omega]; exact HO5⟩
          case measure =>
            have := HXA.out
            rw [HW2.out]
            simp [intOf]; omega
        · obtain rfl : x = a := by omega
          have hl' : ((x : Int) < (x : Int)) = False := by simp
          clear hl hx
          have HO4 : Hid (OwnI wr B u3 (L ((y + 1) * x))) := by rw [Nat.succ_mul]; exact HO3
          go_wp2
          go_roundw
          case rel => exact ⟨y + 1, HYB.out, by rw [HW1.out]; simp, HB3, HO4⟩
          case measure =>
            have := HYB.out
            rw [HW1.out]
            simp [intOf]; omega
    · obtain rfl : y = b := by omega
      have hl' : ((y : Int) < (y : Int)) = False := by simp
      clear hl hy
      obtain ⟨qp, qc, rfl⟩ := HO1.out.form
      go_wp2
      go_ret
      exact ⟨_, rfl, HO1.out, HB1.out⟩
end Go.Proofs.Ytgkjlfpkhpnpfaa
