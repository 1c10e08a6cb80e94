/- The law FlowMore: its walk. -/
import Derived.Test.YtgkjlfpkhpnpfaaMoreFacts
import Derived.Test.YtgkjlfpkhpnpfaaCap
namespace Go.Proofs.Ytgkjlfpkhpnpfaa
open Go.RowKit
theorem makeE_eq {m : Mp} {gs gs' : List Cl} (h : makeE m gs = 0) (hs : ∀ c, c ∈ gs' → c ∈ gs) : makeE m gs' = 0 := by
  obtain ⟨h1, h2⟩ := makeE_zero h
  exact makeE_ok h1 fun c hc => h2 c (hs c hc)
/-- The numbers that List answers for a formed map. -/
theorem listV_row {m : Mp} {f : Cl → Option Nat} {T : Nat} (h : m.W * m.H = (T : Int)) : listV m f = rowV m f T := by
  unfold listV
  rw [h, Int.toNat_natCast]
set_option maxRecDepth 4000 in
set_option maxHeartbeats 8000000 in
theorem more_walk (m : Mp) (v : Value) (p1 p2 : Option Addr) (N1 c1 N2 c2 : Nat) (bl gs : List Cl) (w : World) (hm : MapAt w v m) (hbl : CellsAt w (.slice p1 N1 c1) bl) (hgs : CellsAt w (.slice p2 N2 c2) gs) (hcap : N2 ≤ c2) :
    Calls Try.prog 5 #[v, .slice p1 N1 c1, .slice p2 N2 c2] w fun e w' => e = .returned (.bool true) ∧ Below w.heap.size w w' := by
  have hN1 : N1 = bl.length := by obtain ⟨q, c, e, _⟩ := hbl; simp only [Value.slice.injEq] at e; exact e.2.1
  have hN2 : N2 = gs.length := by obtain ⟨q, c, e, _⟩ := hgs; simp only [Value.slice.injEq] at e; exact e.2.1
  obtain ⟨FW, hFW⟩ : ∃ FW, FW = fewG m.ts.length m.os.length N1 N2 := ⟨_, rfl⟩
  have h8 : Hid (∀ W, Calls Try.prog 8 #[] W fun e w' => Out W (.bool true) e w') := awake_any
  have h10 : Hid (FW = true → ∀ W, Below w.heap.size w W → Calls Try.prog 10 #[v, .slice p1 N1 c1, .slice p2 N2 c2] W fun e w' => OutMake W m bl gs e w') := fun h W hb => by
    rw [hFW] at h
    have := fewG_of h
    exact make_any m v _ _ bl gs W (hm.below hb) (hbl.below hb) (hgs.below hb) (by omega) (by omega)
  have h11 : Hid (FW = true → ∀ W t, Below w.heap.size w W → CellsAt W t (gs.drop 1) → Calls Try.prog 10 #[v, .slice p1 N1 c1, t] W fun e w' => OutMake W m bl (gs.drop 1) e w') := fun h W t hb ht => by
    rw [hFW] at h
    have := fewG_of h
    exact make_any m v _ _ bl (gs.drop 1) W (hm.below hb) (hbl.below hb) ht (by omega) (by rw [List.length_drop]; omega)
  have h12 : Hid (FW = true → ∀ W, Below w.heap.size w W → Calls Try.prog 10 #[v, .slice none 0 0, .slice p2 N2 c2] W fun e w' => OutMake W m [] gs e w') := fun h W hb => by
    rw [hFW] at h
    have := fewG_of h
    exact make_any m v _ _ [] gs W (hm.below hb) ⟨none, 0, rfl, fun h => absurd rfl h⟩ (hgs.below hb) (by simp) (by omega)
  have h13 : Hid (∀ bl gs f base s W, FieldAt W base s m bl gs f → formed m = true → Calls Try.prog 13 #[s] W fun e w' => OutI W (listV m f) e w') := fun bl gs f base s W h hf => list_any m s bl gs f base W h hf
  have HGD : Hid (∀ W, Below w.heap.size w W → CellsAt W (.slice p2 N2 c2) gs) := fun W h => hgs.below h
  have HP2 : Hid (gs ≠ [] → ∃ sb so, p2 = some ⟨sb, so, none⟩) := fun h => by
    obtain ⟨q, c, e, h1⟩ := hgs
    simp only [Value.slice.injEq] at e
    obtain ⟨sb, so, e2, -⟩ := h1 h
    exact ⟨sb, so, by rw [e.1, e2]⟩
  obtain ⟨q1, d1, q2, d2, rfl, -, -⟩ := hm
  have h9 : Hid (∀ W, Calls Try.prog 9 #[.agg #[.int .i64 m.W, .int .i64 m.H, .slice q1 m.ts.length d1, .slice q2 m.os.length d2], .slice p1 N1 c1, .slice p2 N2 c2] W fun e w' => Out W (.bool FW) e w') := fun W => by
    rw [hFW]; exact few_any _ _ _ _ _ _ _ _ _ _ _ _ _ _ W
  have HE0 : Hid (makeE m gs = 0 → formed m = true ∧ ∀ c ∈ gs, inn m c = true) := makeE_zero
  have HE1 : Hid (makeE m gs = 0 → makeE m (gs.drop 1) = 0) := fun h => makeE_eq h fun c hc => List.mem_of_mem_drop hc
  have HN2 := hid hN2
  clear hFW hN1 hN2 hbl hgs
  obtain ⟨S1, hS1⟩ : ∃ z, z = Value.slice q1 m.ts.length d1 := ⟨_, rfl⟩
  obtain ⟨S2, hS2⟩ : ∃ z, z = Value.slice q2 m.os.length d2 := ⟨_, rfl⟩
  obtain ⟨S3, hS3⟩ : ∃ z, z = Value.slice p1 N1 c1 := ⟨_, rfl⟩
  obtain ⟨mW, hmW⟩ : ∃ z, z = m.W := ⟨_, rfl⟩
  obtain ⟨mH, hmH⟩ : ∃ z, z = m.H := ⟨_, rfl⟩
  have HMW := hid (fun (_ : Nat) => And.intro hmW hmH)
  rw [← hS1, ← hS2, ← hmW, ← hmH] at h10 h11 h12 h9 ⊢
  rw [← hS3] at h9 h10 h11 ⊢
  unfold OutMake at h10 h11 h12
  obtain ⟨E, hE⟩ : ∃ E, E = makeE m gs := ⟨_, rfl⟩
  obtain ⟨E1, hE1⟩ : ∃ E1, E1 = makeE m (gs.drop 1) := ⟨_, rfl⟩
  rw [← hE] at h10 h12 HE0 HE1
  rw [← hE1] at h11 HE1
  clear hS1 hS2 hS3 hmW hmH hE hE1
  unfold C Out OutI at *
  go_enter Try.func5, Try.ntmps5
  go_upto_region 1 with fail
  obtain ⟨W, hW⟩ : ∃ W, W = w.alloc (.cells #[Value.int .i64 mW, .int .i64 mH, S1, S2] 24) := ⟨_, rfl⟩
  obtain ⟨B, hB⟩ : ∃ B, B = w.heap.size := ⟨_, rfl⟩
  rw [← hW, ← hB]
  have hsz : W.heap.size = B + 1 := by rw [hW, hB]; simp
  have hbk : Blk W B [Value.int .i64 mW, .int .i64 mH, S1, S2] 24 := by rw [hW, hB]; exact Blk.new _ _ _
  have HBE : Hid (∀ w', Below (B + 1) W w' → Below B w w') := by
    intro w' h
    have h1 : Below w.heap.size w W := by rw [hW]; exact (Below.refl _ _).alloc (Nat.le_refl _) _
    rw [← hB] at h1
    exact h1.trans (h.mono (by omega))
  have HK : Hid (∀ w', Below (B + 1) W w' → w'.cell? ⟨B, 0, none⟩ = some (.int .i64 mW) ∧ w'.cell? ⟨B, 1, none⟩ = some (.int .i64 mH) ∧ w'.cell? ⟨B, 2, none⟩ = some S1 ∧ w'.cell? ⟨B, 3, none⟩ = some S2) := fun w' h => by
    have := hbk.below h (by omega)
    exact ⟨this.cell 0, this.cell 1, this.cell 2, this.cell 3⟩
  have HB := hid (fun (_ : Nat) => hB)
  have HB0 := hid (Below.refl (B + 1) W)
  rw [← hB] at h10 h11 h12
  clear hW hB hbk
  go_wp2_with fail
  refine Calls.mono (h8.out W) ?_
  rintro e w1 ⟨rfl, hb1⟩
  have HB1 : Hid (Below (B + 1) W w1) := by rw [← hsz]; exact hid hb1
  clear hb1 HB0
  obtain ⟨a0, a1, a2, a3⟩ := HK.out _ HB1.out
  go_wp2_with fail
  refine Calls.mono (h9.out w1) ?_
  rintro e w2 ⟨rfl, hb2⟩
  have HB2 : Hid (Below (B + 1) W w2) := HB1.out.trans (hb2.mono (by rw [← hsz]; exact HB1.out.size))
  clear hb2 HB1 a0 a1 a2 a3
  have HQ : Hid (∀ w3, Below (B + 1) W w3 → Below w.heap.size w w3) := hid fun w3 h => by
    have HE := HBE.out _ h
    rw [HB.out 0] at HE
    exact HE
  by_cases hgo : FW = true ∧ gs ≠ []
  · obtain ⟨hFW, hne0⟩ := hgo
    subst hFW
    have hl1 : 1 ≤ N2 := by
      have := HN2.out
      have : gs.length ≠ 0 := fun h => hne0 (List.eq_nil_of_length_eq_zero h)
      omega
    have hlz : ((N2 : Int) == 0) = false := by simp; omega
    obtain ⟨a0, a1, a2, a3⟩ := HK.out _ HB2.out
    obtain ⟨rb, ro, rfl⟩ := HP2.out hne0
    have H10 := hid (h10.out rfl)
    have H11 := hid (h11.out rfl)
    have H12 := hid (h12.out rfl)
    clear h10 h11 h12 h8 h9 HP2
    go_wp2_with fail
    refine Calls.mono (H10.out w2 (HBE.out _ HB2.out)) ?_
    rintro e w3 ⟨s, rfl, hb3, hne, heq⟩
    have HB3 : Hid (Below (B + 1) W w3) := HB2.out.trans (hb3.mono (by rw [← hsz]; exact HB2.out.size))
    have HBB : Hid (B + 1 ≤ w2.heap.size) := hid (by rw [← hsz]; exact HB2.out.size)
    clear a0 a1 a2 a3 hb3 hlz
    go_upto_region 4 with fail
    have hc0 : (1 : Int) ≤ (c2 : Int) := by omega
    have hl0 : (1 : Int) ≤ (N2 : Int) := by omega
    have a0 : ∀ z : Nx w3, z.w.cell? ⟨B, 0, none⟩ = some (.int .i64 mW) := fun z => (HK.out z.w (HB3.out.trans (z.h.mono (by rw [← hsz]; exact HB3.out.size)))).1
    have a1 : ∀ z : Nx w3, z.w.cell? ⟨B, 1, none⟩ = some (.int .i64 mH) := fun z => (HK.out z.w (HB3.out.trans (z.h.mono (by rw [← hsz]; exact HB3.out.size)))).2.1
    have a2 : ∀ z : Nx w3, z.w.cell? ⟨B, 2, none⟩ = some S1 := fun z => (HK.out z.w (HB3.out.trans (z.h.mono (by rw [← hsz]; exact HB3.out.size)))).2.2.1
    have a3 : ∀ z : Nx w3, z.w.cell? ⟨B, 3, none⟩ = some S2 := fun z => (HK.out z.w (HB3.out.trans (z.h.mono (by rw [← hsz]; exact HB3.out.size)))).2.2.2
    have HCB : Hid (CellsAt w3.drew (.slice (some ⟨rb, ro + 2, none⟩) (N2 - 1) (c2 - 1)) (gs.drop 1)) := hid ((HGD.out w3.drew (HQ.out _ (below_drew HB3.out))).drop 1 (c2 - 1))
    have HCA : Hid (c2 = 1 → CellsAt w3.drew (.slice (some ⟨rb, ro, none⟩) 0 0) (gs.drop 1)) := hid fun h => CellsAt.drop_all (by have := HN2.out; omega)
    have hc2 : c2 = 1 ∧ N2 = 1 ∨ ¬ c2 = 1 := by omega
    rcases hc2 with ⟨rfl, rfl⟩ | hc1
    all_goals refine wp_region_calm (S := fun w' => ∃ z : Nx w3, w' = z.w) [(0, false), (1, false), (2, false), (3, false), (4, true), (5, false), (6, false), (7, false), (8, true), (9, true)] (by kernel_rfl) (by kernel_rfl) rfl (by kernel_rfl) ⟨⟨w3.drew, below_drew (Below.refl _ _)⟩, rfl⟩ ?_
    all_goals repeat (refine plan_take rfl (fun K hK => ?_); go_simp; refine ⟨_, fun _ => rfl, hK _ ?_⟩; clear hK K)
    all_goals refine plan_turn rfl (fun K hK => ?_)
    all_goals go_simp
    all_goals refine Calls.mono (H11.out _ _ (HBE.out _ (below_drew HB3.out)) (by first | exact HCB.out | exact HCA.out rfl)) ?_
    all_goals rintro e w4 ⟨s1, rfl, hb4, hne1, heq1⟩
    all_goals have hn4 : Below w3.heap.size w3 w4 := ⟨hb4.os, hb4.tape, hb4.output, hb4.size, hb4.block⟩
    all_goals refine hK _ _ ⟨⟨w4, hn4⟩, rfl⟩ ?_
    all_goals clear hK K
    all_goals repeat (refine plan_take rfl (fun K hK => ?_); go_simp; refine ⟨_, fun _ => rfl, hK _ ?_⟩; clear hK K)
    all_goals refine plan_turn rfl (fun K hK => ?_)
    all_goals go_simp
    all_goals refine hK _ _ ⟨⟨w4, hn4⟩, rfl⟩ ?_
    all_goals clear hK K
    all_goals refine plan_turn rfl (fun K hK => ?_)
    all_goals go_simp
    all_goals refine hK _ _ ⟨⟨w4, hn4⟩, rfl⟩ ?_
    all_goals clear hK K
    all_goals refine plan_done ⟨rfl, ?_⟩
    all_goals have HB4 : Hid (Below (B + 1) W w4) := HB3.out.trans (hn4.mono (by rw [← hsz]; exact HB3.out.size))
    all_goals obtain ⟨b0, b1, b2, b3⟩ := HK.out _ HB4.out
    all_goals clear a0 a1 a2 a3 HCA HCB hc0 hl0
    all_goals go_wp2_with fail
    all_goals refine Calls.mono (H12.out w4 (HBE.out _ HB4.out)) ?_
    all_goals rintro e w5 ⟨s2, rfl, hb5, hne2, heq2⟩
    all_goals have HB5 : Hid (Below (B + 1) W w5) := HB4.out.trans (hb5.mono (by rw [← hsz]; exact HB4.out.size))
    all_goals clear b0 b1 b2 b3
    all_goals
      by_cases hE0 : E = 0
      · obtain ⟨f, hfi, hfa⟩ := heq hE0
        obtain ⟨g, hgi, hga⟩ := heq1 (HE1.out hE0)
        obtain ⟨h, hhi, hha⟩ := heq2 hE0
        obtain ⟨hfm, -⟩ := HE0.out hE0
        have hE1 := HE1.out hE0
        subst hE0
        subst hE1
        have HFA := hid ((hfa.below hn4).below hb5)
        have HGA := hid (hga.below hb5)
        have HHA := hid hha
        obtain ⟨e1, e2⟩ := HMW.out 0
        obtain ⟨f1, f2, -⟩ := formed_of hfm
        have hp := prod_bound f1 f2
        rw [← e1, ← e2] at hp
        obtain ⟨T, hT⟩ : ∃ T : Nat, mW * mH = (T : Int) := ⟨(mW * mH).toNat, by omega⟩
        have hmul : wrap64 (mW * mH) = (T : Int) := by rw [← hT]; exact wrap_small (by omega)
        have hT4 : T ≤ 400 := by omega
        have HLV : Hid (∀ f, listV m f = rowV m f T) := hid fun f => listV_row (by rw [← e1, ← e2]; exact hT)
        have HLL := hid (rowV_length m)
        have HMA := hid (fun i (hi : i < T) => more_at hfi hgi hhi (fun c hc => List.mem_of_mem_drop hc) hi)
        have HB := HB5
        have HFM := hid hfm
        clear hfi hgi hhi hfa hga hha hfm hb4 hb5 hn4 heq heq1 heq2 hne hne1 hne2 f1 f2 hp e1 e2 HB2 HB3 HB4 H10 H11 H12 hT
        go_wp2_with fail
        refine Calls.mono (h13.out _ _ f _ _ w5 HFA.out HFM.out) ?_
        rintro e w6 ⟨l1, rfl, ho1, hb6⟩
        rw [HLV.out f] at ho1
        have HO1 := hid ho1
        have HB6 : Hid (Below (B + 1) W w6) := HB5.out.trans (hb6.mono (by rw [← hsz]; exact HB5.out.size))
        have HGB := hid (HGA.out.below hb6)
        have HHB := hid (HHA.out.below hb6)
        clear ho1 hb6 HGA HHA HFA
        go_wp2_with fail
        refine Calls.mono (h13.out _ _ g _ _ w6 HGB.out HFM.out) ?_
        rintro e w7 ⟨l2, rfl, ho2, hb7⟩
        rw [HLV.out g] at ho2
        have HO2 := hid ho2
        have HO17 := hid (HO1.out.below hb7)
        have HB7 : Hid (Below (B + 1) W w7) := HB6.out.trans (hb7.mono (by rw [← hsz]; exact HB6.out.size))
        have HHC := hid (HHB.out.below hb7)
        clear ho2 hb7 HGB HHB HO1
        go_wp2_with fail
        refine Calls.mono (h13.out _ _ h _ _ w7 HHC.out HFM.out) ?_
        rintro e w8 ⟨l3, rfl, ho3, hb8⟩
        rw [HLV.out h] at ho3
        have HO3 := hid ho3
        have HO18 := hid (HO17.out.below hb8)
        have HO28 := hid (HO2.out.below hb8)
        have HB8 : Hid (Below (B + 1) W w8) := HB7.out.trans (hb8.mono (by rw [← hsz]; exact HB7.out.size))
        clear ho3 hb8 HHC HO17 HO2 HB7 HB6 HB5
        obtain ⟨r1, k1, rfl⟩ := HO18.out.form
        obtain ⟨r2, k2, rfl⟩ := HO28.out.form
        obtain ⟨r3, k3, rfl⟩ := HO3.out.form
        have HX := hid HO18.out.ints
        have HY := hid HO28.out.ints
        have HZ := hid HO3.out.ints
        simp only [HLL.out f T, HLL.out g T, HLL.out h T] at HX HY HZ ⊢
        clear HO18 HO28 HO3
        have HR0 := hid (Below.refl w8.heap.size w8)
        go_upto_region 10 with fail
        go_loopw [16] (fun iv wr => ∃ i : Nat, i ≤ T ∧ iv = .int .i64 (i : Int) ∧ Hid (Below w8.heap.size w8 wr)) (fun iv _ => T - (intOf iv).toNat)
        case atStart => exact ⟨0, by omega, rfl, HR0⟩
        case round =>
          clear HR0
          obtain ⟨i, hi, rfl, HR1⟩ := hrel
          by_cases hl : i < T
          · have hl' : (i : Int) < (T : Int) := by omega
            have hi0 : (0 : Int) ≤ (i : Int) := by omega
            have HIT := hid hl
            obtain ⟨m1, m2⟩ := HMA.out i hl
            obtain ⟨xb, xo, rfl, hx⟩ := HX.out.pos 0 (by omega)
            obtain ⟨yb, yo, rfl, hy⟩ := HY.out.pos 0 (by omega)
            obtain ⟨zb, zo, rfl, hz⟩ := HZ.out.pos 0 (by omega)
            have x0 : wr.cell? ⟨xb, xo + i, none⟩ = some (.int .i64 ((rowV m f T).getD i 0)) := by
              have := hx i hl
              rw [HR1.out.cell (p := ⟨xb, xo + i, none⟩) (lt_of_cell this)]; exact this
            have y0 : wr.cell? ⟨yb, yo + i, none⟩ = some (.int .i64 ((rowV m g T).getD i 0)) := by
              have := hy i hl
              rw [HR1.out.cell (p := ⟨yb, yo + i, none⟩) (lt_of_cell this)]; exact this
            have z0 : wr.cell? ⟨zb, zo + i, none⟩ = some (.int .i64 ((rowV m h T).getD i 0)) := by
              have := hz i hl
              rw [HR1.out.cell (p := ⟨zb, zo + i, none⟩) (lt_of_cell this)]; exact this
            clear hx hy hz hl hi
            generalize (rowV m f T).getD i 0 = xv at *
            generalize (rowV m g T).getD i 0 = yv at *
            generalize (rowV m h T).getD i 0 = zv at *
            have HR2 := hid (fun n => Below.drewN HR1.out n)
            have HR3 : Hid (Below w8.heap.size w8 wr.drew) := hid (below_drew HR1.out)
            go_upto_region 12 with fail
            clear HR3
            by_cases hy0 : 0 ≤ yv
            · obtain ⟨hx0, hxy⟩ := m1 hy0
              obtain ⟨hz0, hzx⟩ := m2 hx0
              have q1 : (xv < 0) = False := by simp; omega
              have q2 : (yv < xv) = False := by simp; omega
              have q3 : (zv < 0) = False := by simp; omega
              have q4 : (xv < zv) = False := by simp; omega
              clear m1 m2 hxy hzx
              go_quiet (fail)
              go_wp2
              go_roundw
              case rel => exact ⟨i + 1, HIT.out, by simp, HR2.out _⟩
              case measure =>
                have := HIT.out
                simp [intOf]; omega
            · have hy1 : (0 ≤ yv) = False := by simp; omega
              by_cases hx0 : 0 ≤ xv
              · obtain ⟨hz0, hzx⟩ := m2 hx0
                have q3 : (zv < 0) = False := by simp; omega
                have q4 : (xv < zv) = False := by simp; omega
                clear m1 m2 hzx hy0
                go_quiet (fail)
                go_wp2
                go_roundw
                case rel => exact ⟨i + 1, HIT.out, by simp, HR2.out _⟩
                case measure =>
                  have := HIT.out
                  simp [intOf]; omega
              · have hx1 : (0 ≤ xv) = False := by simp; omega
                clear m1 m2 hy0 hx0
                go_quiet (fail)
                go_wp2
                go_roundw
                case rel => exact ⟨i + 1, HIT.out, by simp, HR2.out _⟩
                case measure =>
                  have := HIT.out
                  simp [intOf]; omega
          · obtain rfl : i = T := by omega
            have hl' : ((i : Int) < (i : Int)) = False := by simp
            clear hl hi
            obtain ⟨a0, a1, a2, a3⟩ := HK.out _ (HB8.out.trans (HR1.out.mono (by rw [← hsz]; exact HB8.out.size)))
            have HE := hid (HQ.out _ (HB8.out.trans (HR1.out.mono (by rw [← hsz]; exact HB8.out.size))))
            go_wp2
            go_ret
            first
              | exact ⟨rfl, HE.out⟩
              | exact HE.out
      · have := hne hE0
        subst this
        have hne' : (E != 0) = true := by simpa using hE0
        have HE := hid (HQ.out _ HB5.out)
        clear hne heq heq1 heq2 hne1 hne2 hE0
        go_wp2
        go_ret
        first
          | exact ⟨rfl, HE.out⟩
          | exact HE.out
  · have hret : FW = false ∨ (FW = true ∧ N2 = 0) := by
      cases hF : FW with
      | false => exact Or.inl rfl
      | true =>
        refine Or.inr ⟨rfl, ?_⟩
        have := HN2.out
        have h0 : gs = [] := Classical.byContradiction fun h => hgo ⟨hF, h⟩
        rw [this, h0]; rfl
    clear hgo
    rcases hret with rfl | ⟨rfl, rfl⟩
    · go_wp2_with fail
      refine Calls.mono (h8.out w2) ?_
      rintro e w3 ⟨rfl, hb3⟩
      have HB3 := hid (HQ.out _ (HB2.out.trans (hb3.mono (by rw [← hsz]; exact HB2.out.size))))
      clear hb3
      go_wp2
      go_ret
      first
        | exact ⟨rfl, HB3.out⟩
        | exact HB3.out
    · go_wp2_with fail
      refine Calls.mono (h8.out w2) ?_
      rintro e w3 ⟨rfl, hb3⟩
      have HB3 := hid (HQ.out _ (HB2.out.trans (hb3.mono (by rw [← hsz]; exact HB2.out.size))))
      clear hb3
      go_wp2
      go_ret
      first
        | exact ⟨rfl, HB3.out⟩
        | exact HB3.out
end Go.Proofs.Ytgkjlfpkhpnpfaa
