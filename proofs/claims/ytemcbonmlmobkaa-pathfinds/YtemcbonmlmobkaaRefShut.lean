/- The reference: shut. -/
import Derived.Test.YtemcbonmlmobkaaNoB
namespace Go.Proofs.Ytemcbonmlmobkaa
open Go.RowKit
theorem set_mid {α : Type} (a : List α) (x y : α) (r : List α) {i : Nat} (h : a.length = i) : (a ++ x :: r).set i y = a ++ [y] ++ r := by
  subst h
  rw [List.set_append_right _ _ (Nat.le_refl _), Nat.sub_self]
  simp
theorem box_true {x y W H : Int} (h : true = (decide (0 ≤ x) && decide (x < W) && decide (0 ≤ y) && decide (y < H))) : (0 ≤ x) = True ∧ (x < W) = True ∧ (0 ≤ y) = True ∧ (y < H) = True := by
  have := h.symm
  simp only [Bool.and_eq_true, decide_eq_true_eq] at this
  exact ⟨eq_true this.1.1.1, eq_true this.1.1.2, eq_true this.1.2, eq_true this.2⟩
theorem box_false {x y W H : Int} (h : false = (decide (0 ≤ x) && decide (x < W) && decide (0 ≤ y) && decide (y < H))) : (0 ≤ x) = False ∨ ((0 ≤ x) = True ∧ (x < W) = False) ∨ ((0 ≤ x) = True ∧ (x < W) = True ∧ (0 ≤ y) = False) ∨ ((0 ≤ x) = True ∧ (x < W) = True ∧ (0 ≤ y) = True ∧ (y < H) = False) := by
  by_cases e0 : 0 ≤ x
  · by_cases e1 : x < W
    · by_cases e2 : 0 ≤ y
      · by_cases e3 : y < H
        · simp [e0, e1, e2, e3] at h
        · exact Or.inr (Or.inr (Or.inr ⟨eq_true e0, eq_true e1, eq_true e2, eq_false e3⟩))
      · exact Or.inr (Or.inr (Or.inl ⟨eq_true e0, eq_true e1, eq_false e2⟩))
    · exact Or.inr (Or.inl ⟨eq_true e0, eq_false e1⟩)
  · exact Or.inl (eq_false e0)
set_option maxRecDepth 4000 in
set_option maxHeartbeats 16000000 in
theorem refShut_any (m : Mp) (v : Value) (bl : List Cl) (p : Option Addr) (N cap T : Nat) (w : World) (hm : MapAt w v m) (hbl : CellsAt w (.slice p N cap) bl) (hN : N ≤ 1000) (hf : formed m = true) (hT : m.W * m.H = (T : Int)) :
    Calls Try.prog 25 #[v, .slice p N cap] w fun e w' => ∃ g, e = .returned (.slice (some ⟨g, 0, none⟩) T T) ∧ w.heap.size ≤ g ∧ Below w.heap.size w w' ∧ BB w' g (noB m bl T N) := by
  have hNb : N = bl.length := by obtain ⟨q, c, e, _⟩ := hbl; simp only [Value.slice.injEq] at e; exact e.2.1
  obtain ⟨f1, f2, f3, f4, -⟩ := formed_of hf
  have hp := prod_bound f1 f2
  have hT2 : 16 ≤ T ∧ T ≤ 400 := by omega
  have HCB : Hid (∀ W, Below w.heap.size w W → CellsAt W (.slice p N cap) bl) := hid fun W h => hbl.below h
  have HNX : Hid (∀ k, k < N → noB m bl T (k + 1) = shutStep m (noB m bl T k) (bl.getD k (0, 0))) := fun k hk => noB_next (by rw [← hNb]; exact hk)
  have HNL := hid (noB_len m bl T)
  have HB0D : Hid (noB m bl T 0 = rocks m T) := hid rfl
  have HRN := hid (rocks_next m)
  have HRL := hid (rocks_len m)
  have HIX : Hid (∀ c, inn m c = true → idx m c < T ∧ c.2 * m.W + c.1 = (idx m c : Int) ∧ 0 ≤ c.2 * m.W ∧ c.2 * m.W ≤ 400) := fun c hc => by
    have hq := place_lt f1 f2 (holds_of hc)
    have := idx_lt hf hT hc
    exact ⟨this.1, this.2, hq.1, hq.2.1⟩
  have HIN : Hid (∀ x y : Int, inn m (x, y) = (decide (0 ≤ x) && decide (x < m.W) && decide (0 ≤ y) && decide (y < m.H))) := hid fun x y => rfl
  have HNN := hid hNb
  clear hNb hf hbl
  obtain ⟨q1, d1, q2, d2, rfl, hTS, -⟩ := hm
  obtain ⟨sb, so, rfl, hts⟩ := hTS.pos 0 (by omega)
  have HTS : Hid (∀ W, Below w.heap.size w W → ∀ i, i < T → W.cell? ⟨sb, so + i, none⟩ = some (.int .i64 (m.ts.getD i 0))) := hid fun W h i hi => by
    have hi' : i < m.ts.length := by omega
    rw [h.cell (p := ⟨sb, so + i, none⟩) (lt_of_cell (hts i hi'))]
    exact hts i hi'
  have hM : m.ts.length = T := by omega
  clear hTS hts f3 f4
  obtain ⟨S2, hS2⟩ : ∃ z, z = Value.slice q2 m.os.length d2 := ⟨_, rfl⟩
  obtain ⟨mW, hmW⟩ : ∃ z, z = m.W := ⟨_, rfl⟩
  obtain ⟨mH, hmH⟩ : ∃ z, z = m.H := ⟨_, rfl⟩
  rw [← hmW] at HIX f1 hT
  rw [← hmW, ← hmH] at HIN
  rw [← hmH] at hT f2
  rw [← hmW, ← hmH, ← hS2, hM]
  clear hS2 hmW hmH hM
  go_enter Try.func25, Try.ntmps25
  go_upto_region 1 with fail
  obtain ⟨W, hW⟩ : ∃ W, W = w.alloc (.cells #[Value.int .i64 mW, .int .i64 mH, .slice (some ⟨sb, so, none⟩) T d1, S2] 24) := ⟨_, rfl⟩
  obtain ⟨B, hB⟩ : ∃ B, B = w.heap.size := ⟨_, rfl⟩
  rw [← hW, ← hB]
  have hsz : W.heap.size = B + 1 := by rw [hW, hB]; simp
  have hbe : ∀ w', Below (B + 1) W w' → Below B w w' := by
    intro w' h
    have h1 : Below w.heap.size w W := by rw [hW]; exact (Below.refl _ _).alloc (Nat.le_refl _) _
    rw [← hB] at h1
    exact h1.trans (h.mono (by omega))
  have hbk : Blk W B [Value.int .i64 mW, .int .i64 mH, .slice (some ⟨sb, so, none⟩) T d1, S2] 24 := by rw [hW, hB]; exact Blk.new _ _ _
  have hk : ∀ w', Below (B + 1) W w' → w'.cell? ⟨B, 0, none⟩ = some (.int .i64 mW) ∧ w'.cell? ⟨B, 1, none⟩ = some (.int .i64 mH) ∧ w'.cell? ⟨B, 2, none⟩ = some (.slice (some ⟨sb, so, none⟩) T d1) ∧ w'.cell? ⟨B, 3, none⟩ = some S2 := fun w' h => by
    have := hbk.below h (by omega)
    exact ⟨this.cell 0, this.cell 1, this.cell 2, this.cell 3⟩
  rw [← hB] at HCB HTS
  obtain ⟨a0, a1, a2, a3⟩ := hk W (Below.refl _ _)
  have HK := hid hk
  have HBE := hid hbe
  have HBB := hid (fun (_ : Nat) => hB)
  clear hW hB hk hbe hbk
  have hmul : wrap64 (mW * mH) = (T : Int) := by rw [hT]; exact wrap_small (by omega)
  have HT4 := hid (And.intro hT2 (And.intro f1 f2))
  have HT1 : Hid (T ≤ 1000) := hid (by omega)
  have HSZ := hid (fun (_ : Nat) => hsz)
  go_upto_region 3 with (first
      | ((with_reducible refine wpL_makeB T HT1.out ?_ ?_ ?_); (first | rfl | (simp only [hmul])); (first | rfl | (simp only [hmul])); (intro w2 cur2 hc2 hl2 hb2); (have HC2 := hid hc2); (have HL2 := hid hl2); (have HB2 := hid hb2); clear hc2 hl2 hb2))
  rw [hsz] at HC2 HB2
  have HL0 : Hid (Blk w2 (B + 1) ((rocks m 0).map Value.bool ++ cur2) 4) := HC2
  obtain ⟨D, hD⟩ : ∃ D, D = B + 1 := ⟨_, rfl⟩
  rw [← hD] at HL0 HB2 HK HBE ⊢
  have HDE := hid (fun (_ : Nat) => hD)
  clear hD hsz HC2 a0 a1 a2 a3 hmul hT hp hT2
  go_loopw [6] (fun iv wr => ∃ (i : Nat) (l : List Value), i + l.length = T ∧ iv = .int .i64 (i : Int) ∧ Hid (Below D W wr) ∧ Hid (Blk wr D ((rocks m i).map Value.bool ++ l) 4)) (fun iv _ => T - (intOf iv).toNat)
  case atStart => exact ⟨0, cur2, by rw [HL2.out]; omega, rfl, HB2, HL0⟩
  case round =>
    clear HB2 HL0
    obtain ⟨i, l, hil, rfl, HR1, HA1⟩ := hrel
    cases l with
    | cons x l =>
      simp only [List.length_cons] at hil
      have hl' : (i : Int) < (T : Int) := by omega
      have hi0 : (0 : Int) ≤ (i : Int) := by omega
      have HIL := hid hil
      have c0 : wr.cell? ⟨D, i, none⟩ = some x := by rw [HA1.out.cell i, List.getElem?_append_right (by rw [List.length_map, HRL.out]; exact Nat.le_refl _), List.length_map, HRL.out]; simp
      have z0 := HA1.out.frozen i
      have t0 := HTS.out wr (HBE.out _ HR1.out) i (by omega)
      obtain ⟨a0, a1, a2, a3⟩ := HK.out _ HR1.out
      obtain ⟨t, ht⟩ : ∃ t, t = m.ts.getD i 0 := ⟨_, rfl⟩
      rw [← ht] at t0
      have HNB := HRN.out i
      rw [← ht] at HNB
      have HNB' := hid HNB
      obtain ⟨bv, hbv⟩ : ∃ bv, bv = (t == 1) := ⟨_, rfl⟩
      rw [← hbv] at HNB'
      have hbv' : decide (t = 1) = bv := by rw [hbv]; rfl
      obtain ⟨V, hV⟩ : ∃ V, V = wr.setCell ⟨D, i, none⟩ (.bool bv) := ⟨_, rfl⟩
      have hT := turn_one wr D i (.bool bv)
      have HA2 : Hid (Blk V D ((rocks m (i + 1)).map Value.bool ++ l) 4) := by
        rw [hV]
        have := HA1.out.set i (.bool bv)
        rw [set_mid _ _ _ _ (by rw [List.length_map, HRL.out])] at this
        rw [HNB'.out, List.map_append]
        exact hid this
      rw [← hV] at hT
      have HR2 : Hid (Below D W V) := hid (HR1.out.trans (hT.below (Nat.le_refl _)))
      have HV := hid (fun (_ : Nat) => hV)
      have hi9 : (i : Int) + 1 ≤ 9223372036854775807 := by have := HT4.out.1; omega
      have hbv2 := hbv.symm
      clear hV hT hil hbv HNB ht
      go_wp2
      rw [← HV.out 0]
      go_roundw
      case rel => exact ⟨i + 1, l, by have := HIL.out; omega, by simp, HR2, HA2⟩
      case measure =>
        have := HIL.out
        simp [intOf]; omega
    | nil =>
      simp only [List.length_nil, Nat.add_zero] at hil
      subst hil
      have hl' : ((i : Int) < (i : Int)) = False := by simp
      have HD0 : Hid (BB wr D (noB m bl i 0)) := by
        rw [HB0D.out]
        have := HA1.out
        rw [List.append_nil] at this
        exact hid this
      have HR2 := HR1
      clear HA1 HRN
      go_upto_region 7 with fail
      clear hl'
      go_loopw [7] (fun iv wr => ∃ k : Nat, k ≤ N ∧ iv = .int .i64 (k : Int) ∧ Hid (Below D W wr) ∧ Hid (BB wr D (noB m bl i k))) (fun iv _ => N - (intOf iv).toNat)
      case atStart => exact ⟨0, by omega, rfl, HR2, HD0⟩
      case round =>
        clear HR1 HR2 HD0
        obtain ⟨k, hk, rfl, HR3, HD3⟩ := hrel
        by_cases hl : k < N
        · have hl' : (k : Int) < (N : Int) := by omega
          have hk0 : (0 : Int) ≤ (k : Int) := by omega
          have hk9 : (k : Int) + 1 ≤ 9223372036854775807 := by omega
          have HKN := hid hl
          obtain ⟨sb2, so2, rfl, l0, l1⟩ := (HCB.out wr (HBE.out _ HR3.out)).at (i := k) (by rw [← HNN.out]; exact hl)
          have HBK := hid (HNX.out k hl)
          obtain ⟨⟨x, y⟩, hxy⟩ : ∃ c, c = bl.getD k (0, 0) := ⟨_, rfl⟩
          rw [← hxy] at HBK l0 l1
          simp only at l0 l1
          clear hxy hk
          obtain ⟨V, hV⟩ : ∃ V, V = wr.alloc (.cells #[Value.int .i64 x, .int .i64 y] 27) := ⟨_, rfl⟩
          obtain ⟨g, hg⟩ : ∃ g, g = wr.heap.size := ⟨_, rfl⟩
          have hBV : Below wr.heap.size wr V := by rw [hV]; exact (Below.refl _ _).alloc (Nat.le_refl _) _
          have HVG : Hid (Blk V g [.int .i64 x, .int .i64 y] 27) := by rw [hV, hg]; exact Blk.new _ _ _
          have HWD : D ≤ wr.heap.size := by have := Blk.lt HD3.out; omega
          have HRV : Hid (Below D W V) := hid (HR3.out.trans (hBV.mono HWD))
          have HDV : Hid (BB V D (noB m bl i k)) := hid (Blk.below HD3.out hBV (Blk.lt HD3.out))
          go_upto_region 10 with fail
          rw [← hV, ← hg]
          clear hBV HWD hV hg l0 l1 HR3 HD3
          obtain ⟨a0, a1, a2, a3⟩ := HK.out _ HRV.out
          have l0 := HVG.out.cell 0
          have l1 := HVG.out.cell 1
          have HI := hid (HIN.out x y)
          have hI0 := HIX.out (x, y)
          cases hin : inn m (x, y) with
          | false =>
            have HS : Hid (noB m bl i (k + 1) = noB m bl i k) := by
              rw [HBK.out]
              unfold shutStep
              rw [hin]
              exact hid (if_neg (by simp))
            have HDK : Hid (BB V D (noB m bl i (k + 1))) := by rw [HS.out]; exact HDV
            have hc : (0 ≤ x) = False ∨ ((0 ≤ x) = True ∧ (x < mW) = False) ∨ ((0 ≤ x) = True ∧ (x < mW) = True ∧ (0 ≤ y) = False) ∨ ((0 ≤ x) = True ∧ (x < mW) = True ∧ (0 ≤ y) = True ∧ (y < mH) = False) := by
              have := HI.out
              rw [hin] at this
              exact box_false this
            clear hin hI0 HBK HS HDV
            rcases hc with e0 | ⟨e0, e1⟩ | ⟨e0, e1, e2⟩ | ⟨e0, e1, e2, e3⟩
            all_goals
              go_wp2
              go_roundw
              case rel => exact ⟨k + 1, HKN.out, by simp, HRV, HDK⟩
              case measure =>
                have := HKN.out
                simp [intOf]; omega
          | true =>
            obtain ⟨j1, j2, j3, j4⟩ := hI0 hin
            simp only at j2 j3 j4
            have HS : Hid (noB m bl i (k + 1) = (noB m bl i k).set (idx m (x, y)) true) := by
              rw [HBK.out]
              unfold shutStep
              rw [hin]
              exact hid (if_pos rfl)
            have hjl : idx m (x, y) < (noB m bl i k).length := by rw [HNL.out]; exact j1
            generalize idx m (x, y) = j at *
            have hc : (0 ≤ x) = True ∧ (x < mW) = True ∧ (0 ≤ y) = True ∧ (y < mH) = True := by
              have := HI.out
              rw [hin] at this
              exact box_true this
            obtain ⟨e0, e1, e2, e3⟩ := hc
            have hwm' : wrap64 (y * mW) = y * mW := by unfold wrap64; omega
            have hwa' : wrap64 (y * mW + x) = (j : Int) := by rw [j2]; unfold wrap64; have := HT4.out.1; omega
            have c0 := HDV.out.cell hjl
            have z0 := Blk.frozen HDV.out j
            have hj0 : (0 : Int) ≤ (j : Int) := by omega
            have hji : (j : Int) < (i : Int) := by omega
            have hT := turn_one V D j (.bool true)
            obtain ⟨U, hU⟩ : ∃ U, U = V.setCell ⟨D, j, none⟩ (.bool true) := ⟨_, rfl⟩
            have HDU : Hid (BB U D (noB m bl i (k + 1))) := by
              rw [hU, HS.out]
              exact hid (HDV.out.set j true)
            have HRU : Hid (Below D W U) := by rw [hU]; exact hid (HRV.out.trans (hT.below (Nat.le_refl _)))
            have HU := hid (fun (_ : Nat) => hU)
            clear hT hU hin j2 j3 j4 hjl HBK HS hI0 HI
            go_wp2
            rw [← HU.out 0]
            go_roundw
            case rel => exact ⟨k + 1, HKN.out, by simp, HRU, HDU⟩
            case measure =>
              have := HKN.out
              simp [intOf]; omega
        · obtain rfl : k = N := by omega
          have hl' : ((k : Int) < (k : Int)) = False := by simp
          have HE := HBE.out _ HR3.out
          have HDs : Hid (B ≤ D) := by rw [HDE.out 0]; exact hid (Nat.le_succ B)
          rw [HBB.out 0] at HE HDs
          go_wp2
          go_ret
          exact ⟨_, rfl, HDs.out, HE, HD3.out⟩
end Go.Proofs.Ytemcbonmlmobkaa
