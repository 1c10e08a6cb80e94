/- The reference's Seen 20. -/
import Derived.Test.YteijncfnifebjaaSeen
namespace Go.Proofs.Yteijncfnifebjaa
open Go.RowKit
set_option maxRecDepth 20000 in
set_option maxHeartbeats 8000000 in
theorem refSeen_any (m : Mp) (v u s : Value) (l : List (List Int)) (vw : List Bool) (w : World) (hm : MapAt w v m) (hu : RowAt encN 11 w u l) (hs : RowAt encB 1 w s vw) (hn : l.length ≤ 10000) (hn2 : vw.length ≤ 10000) : Calls Try.prog 20 #[v, u, s] w fun e w' => OutN w (seenL m l vw) e w' := by
  have h23 : Hid (∀ x y W v, MapAt W v m → Calls Try.prog 23 #[v, C x y] W fun e w' => Out W (.bool (formed m && holds m x y)) e w') := fun x y W v h => refInside_any m v x y W h
  have HM := hid (fun W (h : Below w.heap.size w W) => hm.below h)
  have HU := hid (fun W (h : Below w.heap.size w W) => hu.below h)
  have HS := hid (fun W (h : Below w.heap.size w W) => hs.below h)
  have HPI : Hid (∀ x y, (formed m && holds m x y) = true → 0 ≤ x ∧ 0 ≤ y ∧ 0 ≤ y * m.W ∧ y * m.W + x < m.W * m.H ∧ y * m.W ≤ 400 ∧ 16 ≤ m.W * m.H ∧ m.W * m.H ≤ 400) := fun x y h => by
    rw [Bool.and_eq_true] at h
    have h1 := place_in h.1 h.2
    have h2 := area_of h.1
    omega
  have HFT := hid (filter_take (seenP m vw) l)
  have HPE : Hid (∀ e, seenP m vw e = ((formed m && holds m (nE e 3) (nE e 4)) && decide ((vw.length : Int) = m.W * m.H) && vw.getD (nE e 4 * m.W + nE e 3).toNat false)) := fun e => rfl
  obtain ⟨N, hN⟩ : ∃ N, N = l.length := ⟨_, rfl⟩
  obtain ⟨T, hT⟩ : ∃ T, T = vw.length := ⟨_, rfl⟩
  obtain ⟨pe, ce, rfl⟩ := hu.form
  obtain ⟨pv, cv, rfl⟩ := hs.form
  rw [← hN] at HU hn ⊢
  rw [← hT] at HS hn2 HPE ⊢
  have HSL : Hid (seenL m l vw = (l.take N).filter (seenP m vw)) := by rw [hN, List.take_length]; exact hid rfl
  generalize seenL m l vw = sl at *
  generalize seenP m vw = P at *
  unfold OutN
  have hn' : (N : Int) ≤ 10000 := by omega
  have hn2' : (T : Int) ≤ 10000 := by omega
  obtain ⟨p, c, q, d, rfl, -, -⟩ := hm
  obtain ⟨a, b, ts, os⟩ := m
  simp only at HM HPI HPE ⊢
  generalize ts.length = M at *
  generalize os.length = O at *
  clear hu hs hN hT
  unfold C at *
  go_enter Try.func20, Try.ntmps20
  go_upto_region 1 with (fail)
  obtain ⟨W, hW⟩ : ∃ W, W = w.alloc (.cells #[Value.int .i64 a, .int .i64 b, .slice p M c, .slice q O d] 24) := ⟨_, rfl⟩
  obtain ⟨B, hB⟩ : ∃ B, B = w.heap.size := ⟨_, rfl⟩
  rw [← hW, ← hB]
  obtain ⟨hk, hbe⟩ := map_box w a b _ _ W B hW hB
  have HK := hid hk
  have HBE := hid hbe
  have HWB : Hid (w.heap.size ≤ W.heap.size) := by rw [hW]; exact hid (by simp)
  clear hW hB hk hbe
  go_wp2_with fail
  go_loopw [8, 7] (fun iv sv wr => ∃ i : Nat, i ≤ N ∧ iv = .int .i64 (i : Int) ∧ Hid (Below W.heap.size W wr) ∧ Hid (OwnR encN 60 11 wr W.heap.size sv ((l.take i).filter P))) (fun iv _ _ => N - (intOf iv).toNat)
  case atStart => exact ⟨0, by omega, rfl, hid (Below.refl _ _), OwnR.nil _ _ _ _ _⟩
  case round =>
    obtain ⟨i, hi, rfl, HB, HO⟩ := hrel
    by_cases hlt : i < N
    · obtain ⟨hx, sb, so, z0, z1, z2, z3, z4, z5, z6, z7, z8, z9, z10, rfl, hsb, he, hz3, hz4, c0, c1, c2, c3, c4, c5, c6, c7, c8, c9, c10⟩ := RowAt.nums (HU.out wr (HBE.out wr HB.out)) i hlt
      have HC : Hid (∀ w', Below wr.heap.size wr w' → (w'.cell? ⟨sb, so + i * 11, none⟩ = some (.int .i64 z0) ∧ w'.cell? ⟨sb, so + i * 11 + 1, none⟩ = some (.int .i64 z1) ∧ w'.cell? ⟨sb, so + i * 11 + 2, none⟩ = some (.int .i64 z2) ∧ w'.cell? ⟨sb, so + i * 11 + 3, none⟩ = some (.int .i64 z3) ∧ w'.cell? ⟨sb, so + i * 11 + 4, none⟩ = some (.int .i64 z4) ∧ w'.cell? ⟨sb, so + i * 11 + 5, none⟩ = some (.int .i64 z5) ∧ w'.cell? ⟨sb, so + i * 11 + 6, none⟩ = some (.int .i64 z6) ∧ w'.cell? ⟨sb, so + i * 11 + 7, none⟩ = some (.int .i64 z7) ∧ w'.cell? ⟨sb, so + i * 11 + 8, none⟩ = some (.int .i64 z8) ∧ w'.cell? ⟨sb, so + i * 11 + 9, none⟩ = some (.int .i64 z9) ∧ w'.cell? ⟨sb, so + i * 11 + 10, none⟩ = some (.int .i64 z10))) := fun w' h => by
        have hk : ∀ j, w'.cell? ⟨sb, j, none⟩ = wr.cell? ⟨sb, j, none⟩ := fun j => h.cell (p := ⟨sb, j, none⟩) hsb
        simp only [hk]
        exact ⟨c0, c1, c2, c3, c4, c5, c6, c7, c8, c9, c10⟩
      have hft := hid (HFT.out i hx)
      have hpe := hid (HPE.out l[i])
      rw [hz3, hz4] at hpe
      have HEN := hid he
      have hlen : ((l.take i).filter P).length ≤ i := Nat.le_trans (List.length_filter_le _ _) (by rw [List.length_take]; omega)
      obtain ⟨e1, he1⟩ : ∃ e1, e1 = l[i] := ⟨_, rfl⟩
      rw [← he1] at hft hpe HEN
      clear he hz3 hz4 he1
      have e2 : (i : Int) < (N : Int) := by omega
      have e3 : (0 : Int) ≤ (i : Int) := by omega
      obtain ⟨p0, cap0, rfl⟩ := HO.out.form
      obtain ⟨L, hL⟩ : ∃ L, L = ((l.take i).filter P).length := ⟨_, rfl⟩
      have HL := hid (fun (_ : Nat) => hL)
      rw [← hL] at HO hlen ⊢
      clear hL c0 c1 c2 c5 c6 c7 c8 c9 c10
      go_upto_region 6 with (fail)
      obtain ⟨V, hV⟩ : ∃ V, V = wr.alloc (.cells #[Value.int .i64 z3, .int .i64 z4] 27) := ⟨_, rfl⟩
      obtain ⟨g, hg⟩ : ∃ g, g = wr.heap.size := ⟨_, rfl⟩
      rw [← hV, ← hg]
      have HVB : Hid (Below wr.heap.size wr V) := by rw [hV]; exact (Below.refl _ _).alloc (Nat.le_refl _) _
      have HE : Hid (Blk V g [Value.int .i64 z3, .int .i64 z4] 27) := by rw [hV]; exact Blk.new' _ _ _ _ hg
      have HBX := hid (HB.out.trans (HVB.out.mono HB.out.size))
      have HOX := hid (HO.out.below HVB.out)
      clear hV hg c3 c4 hsb HB HO
      have g3 : V.cell? ⟨g, 0, none⟩ = some (.int .i64 z3) := HE.out.cell 0
      have g4 : V.cell? ⟨g, 1, none⟩ = some (.int .i64 z4) := HE.out.cell 1
      obtain ⟨a0, a1, a2, a3⟩ := HK.out V HBX.out
      go_wp2_with fail
      refine Calls.mono (h23.out _ _ _ _ (HM.out _ (HBE.out _ HBX.out))) ?_
      rintro e w3 ⟨rfl, hb3⟩
      have HB3 := hid (HBX.out.trans (hb3.mono HBX.out.size))
      have HO3 := hid (HOX.out.below hb3)
      have HE3 := hid (HE.out.below hb3 HE.out.lt)
      have HV3 := hid (HVB.out.trans (hb3.mono HVB.out.size))
      clear hb3 g3 g4 HOX HE HBX a0 a1 a2 a3 HVB
      obtain ⟨a0, a1, a2, a3⟩ := HK.out w3 HB3.out
      have g3 : w3.cell? ⟨g, 0, none⟩ = some (.int .i64 z3) := HE3.out.cell 0
      have g4 : w3.cell? ⟨g, 1, none⟩ = some (.int .i64 z4) := HE3.out.cell 1
      have HPI3 := hid (HPI.out z3 z4)
      generalize (formed ⟨a, b, ts, os⟩ && holds ⟨a, b, ts, os⟩ z3 z4) = IN at *
      rcases IN with _ | _
      · have hp : P e1 = false := by have := hpe.out; rwa [Bool.false_and, Bool.false_and] at this
        have hft2 := hft.out
        rw [hp, if_neg Bool.false_ne_true, List.append_nil] at hft2
        have HOn : Hid (OwnR encN 60 11 w3 W.heap.size (.slice p0 L cap0) ((l.take (i + 1)).filter P)) := by rw [hft2]; exact HO3
        clear hft2 hp HPI3 hft hpe
        go_wp2
        exact ⟨⟨i + 1, by omega, by simp, HB3, HOn⟩, by simp [intOf]; omega⟩
      · obtain ⟨i1, i2, i3, i4, i5, i6, i7⟩ := HPI3.out rfl
        have hwm : wrap64 (a * b) = a * b := wrap_small ⟨by omega, by omega⟩
        by_cases hTT : (T : Int) = a * b
        · have hne : ((T : Int) == a * b) = true := by simpa using hTT
          rw [decide_eq_true hTT, Bool.true_and] at hpe
          have HTT := hid (fun (_ : Nat) => hTT)
          obtain ⟨Q, hQ⟩ : ∃ Q, Q = z4 * a := ⟨_, rfl⟩
          rw [← hQ] at i3 i4 i5 hpe
          have hq1 : wrap64 (z4 * a) = Q := by rw [← hQ]; exact wrap_small ⟨by omega, by omega⟩
          obtain ⟨k, hk⟩ : ∃ k : Nat, Q + z3 = (k : Int) := ⟨(Q + z3).toNat, by omega⟩
          have hkT : k < T := by have := HTT.out 0; omega
          have hq2 : wrap64 (Q + z3) = (k : Int) := by rw [hk]; exact wrap_small ⟨by omega, by have := HTT.out 0; omega⟩
          rw [hk, Int.toNat_natCast] at hpe
          obtain ⟨hxv, sbv, sov, rfl, hsbv, hcv⟩ := RowAt.pos layB (HS.out w3 (HBE.out _ HB3.out)) k hkT
          have d0 : w3.cell? ⟨sbv, sov + k, none⟩ = some (.bool vw[k]) := by have := hcv 0 _ rfl; rwa [Nat.mul_one, Nat.add_zero] at this
          have hpe2 := hpe.out
          rw [Bool.true_and, List.getD_eq_getElem?_getD, List.getElem?_eq_getElem hxv, Option.getD_some] at hpe2
          have HPV := hid hpe2
          have e4 : (k : Int) < (T : Int) := by omega
          have e5 : (0 : Int) ≤ (k : Int) := by omega
          clear hcv hsbv hpe2 hpe hk i1 i2 i3 i4 i5 i6 i7 HPI3 hQ hTT
          generalize vw[k] = Z at *
          rcases Z with _ | _
          · have hft2 := hft.out
            rw [HPV.out, if_neg Bool.false_ne_true, List.append_nil] at hft2
            have HOn : Hid (OwnR encN 60 11 w3 W.heap.size (.slice p0 L cap0) ((l.take (i + 1)).filter P)) := by rw [hft2]; exact HO3
            clear hft2 hft HPV
            go_wp2
            exact ⟨⟨i + 1, by omega, by simp, HB3, HOn⟩, by simp [intOf]; omega⟩
          · have hft2 := hft.out
            rw [HPV.out, if_pos rfl] at hft2
            have HFN := hid hft2
            clear hft2 hft HPV
            obtain ⟨g0, g1, g2, h3, h4, g5, g6, g7, g8, g9, g10⟩ := HC.out w3 HV3.out
            obtain ⟨U, hU⟩ : ∃ U, U = w3.alloc (.cells #[Value.int .i64 z0, .int .i64 z1, .int .i64 z2, .int .i64 z3, .int .i64 z4, .int .i64 z5, .int .i64 z6, .int .i64 z7, .int .i64 z8, .int .i64 z9, .int .i64 z10] 60) := ⟨_, rfl⟩
            have HUB : Hid (Below w3.heap.size w3 U) := by rw [hU]; exact (Below.refl _ _).alloc (Nat.le_refl _) _
            have HUG : Hid (RowAt encN 11 U (.slice (some ⟨w3.heap.size, 0, none⟩) 1 1) [e1]) := by rw [hU]; exact RowAt.one _ _ _ _ (by rw [HEN.out])
            have HBU := hid (HB3.out.trans (HUB.out.mono HB3.out.size))
            have HOU := hid (HO3.out.below HUB.out)
            have HDU : Hid (W.heap.size ≤ U.heap.size) := hid HBU.out.size
            rw [hU] at HUG HBU HOU HDU
            have HLN : Hid (((l.take i).filter P).length + [e1].length = L + 1) := by rw [← HL.out 0]; exact hid rfl
            clear hU HUB
            generalize (l.take i).filter P = ls at *
            go_wp2_with (first
              | ((with_reducible refine wpL_appendR layN Try.underlying41 info60 rfl (by omega) W.heap.size (.slice p0 L cap0) (.slice (some ⟨w3.heap.size, 0, none⟩) 1 1) ls [e1] (L + 1) (by simp) HLN.out ?_ ?_ HOU.out HUG.out (by omega) HDU.out ?_); (rfl); (rfl); (intro p5 c5 w6 ho6 hg6); (have HB6 := hid (HBU.out.trans (hg6.belowR HOU.out HDU.out)); rw [← HFN.out] at ho6; have HO6 := hid ho6; clear ho6 hg6); (simp only [Act.put, List.setIfInBounds_toArray, List.set_cons_zero, List.set_cons_succ])))
            exact ⟨⟨i + 1, by omega, by simp, HB6, HO6⟩, by simp [intOf]; omega⟩
        · have hne : ((T : Int) == a * b) = false := by simpa using hTT
          have hp : P e1 = false := by have := hpe.out; rwa [decide_eq_false hTT, Bool.and_false, Bool.false_and] at this
          have hft2 := hft.out
          rw [hp, if_neg Bool.false_ne_true, List.append_nil] at hft2
          have HOn : Hid (OwnR encN 60 11 w3 W.heap.size (.slice p0 L cap0) ((l.take (i + 1)).filter P)) := by rw [hft2]; exact HO3
          clear hft2 hp HPI3 hft hpe i1 i2 i3 i4 i5 i6 i7 hTT
          go_wp2
          exact ⟨⟨i + 1, by omega, by simp, HB3, HOn⟩, by simp [intOf]; omega⟩
    · obtain rfl : i = N := by omega
      rw [← HSL.out] at HO
      go_wp2
      go_ret
      exact ⟨_, rfl, HO.out.mono HWB.out, HBE.out _ HB.out⟩
end Go.Proofs.Yteijncfnifebjaa
