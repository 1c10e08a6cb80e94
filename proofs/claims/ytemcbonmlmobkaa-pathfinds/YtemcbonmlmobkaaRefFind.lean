/- The reference: Find. -/
import Derived.Test.YtemcbonmlmobkaaRefNxt
import Derived.Test.YtemcbonmlmobkaaFind
namespace Go.Proofs.Ytemcbonmlmobkaa
open Go.RowKit
def diffC (a b c d : Int) : Bool := decide ((a, b) ≠ (c, d))
theorem run_neqS (a b c d : Int) (w : World) : (binOp .neq 27 (.agg #[.int .i64 a, .int .i64 b]) (.agg #[.int .i64 c, .int .i64 d])).run Try.prog w = .ok (.bool (diffC a b c d)) w := run_neqC a b c d w
attribute [local go_sem ↓] run_neqS run_eqlC
set_option maxRecDepth 4000 in
set_option maxHeartbeats 16000000 in
theorem refFind_any (m : Mp) (v : Value) (bl : List Cl) (p1 : Option Addr) (N1 c1 : Nat) (ax ay bx by_ most : Int) (w : World) (hm : MapAt w v m) (hbl : CellsAt w (.slice p1 N1 c1) bl) (hN : N1 ≤ 1000) :
    Calls Try.prog 11 #[v, .slice p1 N1 c1, C ax ay, C bx by_, .int .i64 most] w fun e w' => OutFind w (findV m bl (ax, ay) (bx, by_) most) e w' := by
  have h20 : Hid (∀ W, Below w.heap.size w W → Calls Try.prog 23 #[v] W fun e w' => Out W (.bool (formed m)) e w') := fun W h => refFormed_any m v W (hm.below h)
  have h16 : Hid (∀ x y W, Below w.heap.size w W → Calls Try.prog 24 #[v, C x y] W fun e w' => Out W (.bool (formed m && inn m (x, y))) e w') := fun x y W h => refInside_any m v x y W (hm.below h)
  obtain ⟨T, hTd⟩ : ∃ T, T = (m.W * m.H).toNat := ⟨_, rfl⟩
  have HFT : Hid (formed m = true → m.W * m.H = (T : Int) ∧ (4 ≤ m.W ∧ m.W ≤ 20) ∧ (4 ≤ m.H ∧ m.H ≤ 20) ∧ T ≤ 400 ∧ 16 ≤ T) := fun hf => by
    obtain ⟨f1, f2, -⟩ := formed_of hf
    have hp := prod_bound f1 f2
    exact ⟨by omega, f1, f2, by omega, by omega⟩
  have HIX : Hid (formed m = true → ∀ c, inn m c = true → idx m c < T ∧ c.2 * m.W + c.1 = (idx m c : Int) ∧ 0 ≤ c.2 * m.W ∧ c.2 * m.W ≤ 400 ∧ cellOf m (idx m c) = c) := fun hf c hc => by
    obtain ⟨f1, f2, -⟩ := formed_of hf
    have hq := place_lt f1 f2 (holds_of hc)
    have := idx_lt hf (HFT.out hf).1 hc
    exact ⟨this.1, this.2, hq.1, hq.2.1, cell_idx hf hc⟩
  have h25 : Hid (formed m = true → ∀ W, Below w.heap.size w W → Calls Try.prog 25 #[v, .slice p1 N1 c1] W fun e w' => ∃ g, e = .returned (.slice (some ⟨g, 0, none⟩) T T) ∧ W.heap.size ≤ g ∧ Below W.heap.size W w' ∧ BB w' g (noB m bl T N1)) := fun hf W h => refShut_any m v bl p1 N1 c1 T W (hm.below h) (hbl.below h) hN hf (HFT.out hf).1
  have h26 : Hid (formed m = true → inn m (bx, by_) = true → ∀ W, Below w.heap.size w W → Calls Try.prog 26 #[v, .slice p1 N1 c1, C bx by_] W fun e w' => ∃ g d, e = .returned (.slice (some ⟨g, 0, none⟩) T T) ∧ W.heap.size ≤ g ∧ Below W.heap.size W w' ∧ IB w' g d ∧ d.length = T ∧ ∀ i, i < T → d.getD i 0 = distV m bl (bx, by_) (cellOf m i)) := fun hf hb W h => refDis_any m v bl p1 N1 c1 T bx by_ W (hm.below h) (hbl.below h) hN hf (HFT.out hf).1 hb
  have h27 : Hid (formed m = true → ∀ x y W, inn m (x, y) = true → Below w.heap.size w W → Calls Try.prog 27 #[v, C x y] W fun e w' => OutOwn W (nr m (x, y)) e w') := fun hf x y W hi h => by
    obtain ⟨f1, f2, -⟩ := formed_of hf
    have hp := holds_of hi
    exact refNear_own m v _ _ W (by omega) (by omega) (hm.below h)
  have HNV : Hid (formed m = true → ∀ j, j < T → (noB m bl T N1).getD j false = !pass m bl (cellOf m j)) := fun hf j hj => by
    obtain ⟨q, c, e, _⟩ := hbl
    simp only [Value.slice.injEq] at e
    rw [e.2.1]
    exact noB_done hf (HFT.out hf).1 hj
  have HNL := hid (noB_len m bl T N1)
  have HNI : Hid (∀ c x, formed m = true → x ∈ nr m c → inn m x = true) := fun c x hf h => nr_in hf h
  have HNL4 : Hid (∀ c, (nr m c).length ≤ 4) := fun c => by
    unfold nr near
    split
    · exact Nat.le_trans (List.length_filter_le _ _) (by simp [nbs])
    · simp
  have HDN : Hid (formed m = true → inn m (bx, by_) = true → inn m (ax, ay) = true → 1000000 ≤ distV m bl (bx, by_) (ax, ay) → ∀ n, wy m bl (bx, by_) n (ax, ay) = false) := fun hf hb ha h => (distV_none hf hb ha).1 h
  have HDS : Hid (formed m = true → inn m (bx, by_) = true → inn m (ax, ay) = true → distV m bl (bx, by_) (ax, ay) < 1000000 → ∃ L : Nat, L ≤ 400 ∧ distV m bl (bx, by_) (ax, ay) = (L : Int) ∧ ds m bl (bx, by_) L (ax, ay) = true) := fun hf hb ha h => by
    unfold distV at h ⊢
    cases hv : fV m bl (bx, by_) (ax, ay) with
    | none => rw [hv] at h; simp at h
    | some L =>
      have hd := (fV_ds hf hb ha).1 hv
      obtain ⟨f, hM⟩ := meas_ex (bl := bl) hf ha hb
      refine ⟨L, ?_, rfl, hd⟩
      cases hn : f (ax, ay) with
      | none => have := hM.none hn L; rw [(ds_iff.1 hd).1] at this; cases this
      | some K =>
        obtain ⟨k1, k2, -⟩ := hM.some K hn
        rw [ds_unique hd k1]; exact k2
  have HV1 : Hid (formed m = false → findV m bl (ax, ay) (bx, by_) most = ([], 4)) := findV_form
  have HV2 : Hid (formed m = true → (inn m (ax, ay) && inn m (bx, by_)) = false → findV m bl (ax, ay) (bx, by_) most = ([], 2)) := findV_range
  have HV3 : Hid (formed m = true → (inn m (ax, ay) && inn m (bx, by_)) = true → (∀ n, wy m bl (bx, by_) n (ax, ay) = false) → findV m bl (ax, ay) (bx, by_) most = ([], 3)) := findV_none
  have HV4 : Hid (∀ L, formed m = true → (inn m (ax, ay) && inn m (bx, by_)) = true → ds m bl (bx, by_) L (ax, ay) = true → L ≤ 400 → findV m bl (ax, ay) (bx, by_) most = if (L : Int) > most then ([], 12) else (way m bl (bx, by_) L (ax, ay), 0)) := fun L h1 h2 h3 h4 => findV_some h1 h2 h3 h4
  generalize findV m bl (ax, ay) (bx, by_) most = R at *
  clear hbl hN hTd
  obtain ⟨p, c, q, d, rfl, -, -⟩ := hm
  unfold OutFind
  obtain ⟨S1, hS1⟩ : ∃ z, z = Value.slice p m.ts.length c := ⟨_, rfl⟩
  obtain ⟨S2, hS2⟩ : ∃ z, z = Value.slice q m.os.length d := ⟨_, rfl⟩
  obtain ⟨S3, hS3⟩ : ∃ z, z = Value.slice p1 N1 c1 := ⟨_, rfl⟩
  obtain ⟨mW, hmW⟩ : ∃ z, z = m.W := ⟨_, rfl⟩
  obtain ⟨mH, hmH⟩ : ∃ z, z = m.H := ⟨_, rfl⟩
  obtain ⟨no, hno⟩ : ∃ z, z = noB m bl T N1 := ⟨_, rfl⟩
  rw [← hno] at HNV HNL h25
  rw [← hS1, ← hS2, ← hmW, ← hmH] at h20 h16 h25 h26 h27 ⊢
  rw [← hS3] at h25 h26 ⊢
  rw [← hmW, ← hmH] at HFT
  rw [← hmW] at HIX
  clear hS1 hS2 hS3 hmW hmH hno
  unfold C at *
  go_enter Try.func11, Try.ntmps11
  go_upto_region 1 with fail
  obtain ⟨W, hW⟩ : ∃ W, W = ((w.alloc (.cells #[Value.int .i64 mW, .int .i64 mH, S1, S2] 24)).alloc (.cells #[Value.int .i64 ax, .int .i64 ay] 27)).alloc (.cells #[Value.int .i64 bx, .int .i64 by_] 27) := ⟨_, rfl⟩
  obtain ⟨B, hB⟩ : ∃ B, B = w.heap.size := ⟨_, rfl⟩
  rw [← hW, ← hB]
  obtain ⟨hk, hbe, hsz⟩ := map_cells_box w mW mH S1 S2 ax ay bx by_ W B hW hB
  obtain ⟨a0, a1, a2, a3, -, -, -, -⟩ := hk W (Below.refl _ _)
  have HK := hid hk
  have HBE := hid hbe
  have HB := hid (fun (_ : Nat) => hB)
  clear hW hB hk hbe hsz
  go_wp2_with fail
  refine Calls.mono (h20.out _ (HBE.out W (Below.refl _ _))) ?_
  rintro e w1 ⟨rfl, hb1⟩
  have HB1 := hid hb1
  clear hb1 a0 a1 a2 a3
  rcases hf : formed m with _ | _
  · have hr := HV1.out hf
    subst hr
    go_wp2
    go_ret2
    have HE := HBE.out _ HB1.out
    have HBo := HB.out 0
    first
      | exact ⟨_, rfl, OwnC.nil _ _, HE⟩
      | (rw [← HBo]; rw [← HBo] at HE; exact ⟨_, rfl, OwnC.nil _ _, HE⟩)
  · obtain ⟨b0, b1, b2, b3, b4, b5, b6, b7⟩ := HK.out w1 HB1.out
    go_wp2_with fail
    refine Calls.mono (h16.out ax ay _ (HBE.out w1 HB1.out)) ?_
    rintro e w2 ⟨rfl, hb2⟩
    have HB2 := hid (HB1.out.trans (hb2.mono HB1.out.size))
    clear hb2 b0 b1 b2 b3 b4 b5 b6 b7 HB1
    rw [hf, Bool.true_and]
    rcases ha : inn m (ax, ay) with _ | _
    · have hr := HV2.out hf (by rw [ha]; rfl)
      subst hr
      go_wp2
      go_ret2
      have HE := HBE.out _ HB2.out
      have HBo := HB.out 0
      first
        | exact ⟨_, rfl, OwnC.nil _ _, HE⟩
        | (rw [← HBo]; rw [← HBo] at HE; exact ⟨_, rfl, OwnC.nil _ _, HE⟩)
    · obtain ⟨b0, b1, b2, b3, b4, b5, b6, b7⟩ := HK.out w2 HB2.out
      go_wp2_with fail
      refine Calls.mono (h16.out bx by_ _ (HBE.out w2 HB2.out)) ?_
      rintro e w3 ⟨rfl, hb3⟩
      have HB3 := hid (HB2.out.trans (hb3.mono HB2.out.size))
      clear hb3 b0 b1 b2 b3 b4 b5 b6 b7 HB2
      rw [hf, Bool.true_and]
      rcases hb : inn m (bx, by_) with _ | _
      · have hr := HV2.out hf (by rw [ha, hb]; rfl)
        subst hr
        go_wp2
        go_ret2
        have HE := HBE.out _ HB3.out
        have HBo := HB.out 0
        first
          | exact ⟨_, rfl, OwnC.nil _ _, HE⟩
          | (rw [← HBo]; rw [← HBo] at HE; exact ⟨_, rfl, OwnC.nil _ _, HE⟩)
      · obtain ⟨b0, b1, b2, b3, b4, b5, b6, b7⟩ := HK.out w3 HB3.out
        have hab : (inn m (ax, ay) && inn m (bx, by_)) = true := by rw [ha, hb]; rfl
        obtain ⟨t1, f1, f2, t2, t3⟩ := HFT.out hf
        have HT4 := hid (And.intro t2 (And.intro t3 (And.intro f1 f2)))
        have H25 := hid (h25.out hf)
        have H26 := hid (h26.out hf hb)
        have H27 := hid (h27.out hf)
        have HIX' := hid (HIX.out hf)
        have HNV' := hid (HNV.out hf)
        have HDN' := hid (HDN.out hf hb ha)
        have HDS' := hid (HDS.out hf hb ha)
        have HV3' := hid (HV3.out hf hab)
        have HV4' := hid (fun L => HV4.out L hf hab)
        obtain ⟨j1, j2, j3, j4, j5⟩ := HIX'.out _ ha
        simp only at j2 j3 j4
        have HA := hid ha
        have HDXX : Hid (∀ (n : Nat) c, inn m c = true → n + 1 ≤ 1000 → ds m bl (bx, by_) (n + 1) c = true → distV m bl (bx, by_) c = (n : Int) + 1) := hid fun n c hc hn hd => by
          have := (distV_ds hf hb hc hn).2 hd
          omega
        have HFT2 : Hid (∀ (n : Nat) nx ny, fits m bl (bx, by_) n (nx, ny) = ((sameC nx ny bx by_ || pass m bl (nx, ny)) && distV m bl (bx, by_) (nx, ny) == (n : Int))) := hid fun n nx ny => by
          have e : ((nx, ny) == (bx, by_)) = decide ((nx, ny) = (bx, by_)) := by rw [Bool.eq_iff_iff, beq_iff_eq, decide_eq_true_eq]
          unfold fits opB sameC
          rw [e]
        replace HNI : Hid (∀ c x, x ∈ nr m c → inn m x = true) := hid fun c x h => HNI.out c x hf h
        have HWY : Hid (∀ n c, n ≤ 1000 → ds m bl (bx, by_) (n + 1) c = true → _) := hid (fun n c hn hd => nxt_way hf hb hn hd)
        clear hab HV1 HV2 HV3 HV4 h25 h26 h27 h16 h20 hf ha hb HFT HIX HNV HDN HDS t1
        go_wp2_with fail
        refine Calls.mono (H25.out _ (HBE.out w3 HB3.out)) ?_
        rintro _ w4 ⟨O, rfl, hO, hb4, hBB⟩
        have HB4 := hid (HB3.out.trans (hb4.mono HB3.out.size))
        have HBB := hid hBB
        have HOG := hid hO
        obtain ⟨b0, b1, b2, b3, b4, b5, b6, b7⟩ := HK.out w4 HB4.out
        clear hb4 hBB hO
        go_wp2_with fail
        refine Calls.mono (H26.out _ (HBE.out w4 HB4.out)) ?_
        rintro _ w5 ⟨D, d, rfl, hD, hb5, hIB, hdl, hdv⟩
        have HB5 := hid (HB4.out.trans (hb5.mono HB4.out.size))
        have HBB5 : Hid (BB w5 O no) := hid (Blk.below HBB.out hb5 (Blk.lt HBB.out))
        have HIB := hid hIB
        have HDL := hid hdl
        have HDV := hid hdv
        have HOD : Hid (O < D) := hid (by have := Blk.lt HBB.out; omega)
        obtain ⟨b0, b1, b2, b3, b4, b5, b6, b7⟩ := HK.out w5 HB5.out
        have cj := HIB.out.cell (i := idx m (ax, ay)) (by rw [hdl]; exact j1)
        rw [hdv _ j1, j5] at cj
        have hwm' : wrap64 (ay * mW) = ay * mW := by unfold wrap64; omega
        have hwa' : wrap64 (ay * mW + ax) = (idx m (ax, ay) : Int) := by rw [j2]; unfold wrap64; have := HT4.out; omega
        have hjT : ((idx m (ax, ay) : Nat) : Int) < (T : Int) := by omega
        clear hb5 hIB hdl hdv hD HBB HB4 HB3 j2 j3 j4 j5
        generalize idx m (ax, ay) = j at *
        have hj0 : (0 : Int) ≤ (j : Int) := by omega
        go_upto_region 8 with fail
        clear cj hwm' hwa' hjT hj0 b0 b1 b2 b3 b4 b5 b6 b7 j1
        obtain ⟨dv, hdv⟩ : ∃ dv, dv = distV m bl (bx, by_) (ax, ay) := ⟨_, rfl⟩
        rw [← hdv] at HDN' HDS' ⊢
        clear hdv
        by_cases hfar : 1000000 ≤ dv
        · have hr := HV3'.out (HDN'.out hfar)
          subst hr
          go_wp2
          go_ret2
          have HE := HBE.out _ HB5.out
          have HBo := HB.out 0
          first
            | exact ⟨_, rfl, OwnC.nil _ _, HE⟩
            | (rw [← HBo]; rw [← HBo] at HE; exact ⟨_, rfl, OwnC.nil _ _, HE⟩)
        · obtain ⟨L, hL, rfl, hds⟩ := HDS'.out (by omega)
          have hr := HV4'.out L hds hL
          have hfar' : ((1000000 : Int) ≤ (L : Int)) = False := by simp; omega
          by_cases hlm : (L : Int) > most
          · rw [if_pos hlm] at hr
            subst hr
            have hlm' : most < (L : Int) := hlm
            go_wp2
            go_ret2
            have HE := HBE.out _ HB5.out
            have HBo := HB.out 0
            first
              | exact ⟨_, rfl, OwnC.nil _ _, HE⟩
              | (rw [← HBo]; rw [← HBo] at HE; exact ⟨_, rfl, OwnC.nil _ _, HE⟩)
          · rw [if_neg hlm] at hr
            subst hr
            have hlm' : (most < (L : Int)) = False := by simp; omega
            have HDb := hid (Blk.lt HIB.out)
            obtain ⟨V, hV⟩ : ∃ V, V = w5.alloc (.cells #[Value.int .i64 ax, .int .i64 ay] 27) := ⟨_, rfl⟩
            obtain ⟨Cb, hC⟩ : ∃ Cb, Cb = w5.heap.size := ⟨_, rfl⟩
            have HBV : Hid (Below Cb w5 V) := by rw [hV, hC]; exact hid ((Below.refl _ _).alloc (Nat.le_refl _) _)
            have HCV : Hid (Blk V Cb [.int .i64 ax, .int .i64 ay] 27) := by rw [hV, hC]; exact hid (Blk.new _ _ _)
            obtain ⟨b0, b1, b2, b3, b4, b5, b6, b7⟩ := HK.out w5 HB5.out
            go_upto_region 14 with fail
            rw [← hV, ← hC]
            rw [← hC] at HDb
            have HCE := hid (fun (_ : Nat) => hC)
            clear hV hC hfar' hlm' hfar hlm b0 b1 b2 b3 b4 b5 b6 b7
            have HAL : Hid (([] : List Cl) ++ way m bl (bx, by_) L (ax, ay) = way m bl (bx, by_) L (ax, ay)) := hid rfl
            have HDSA := hid hds
            clear hds
            go_loopw [15] (fun ov wr => ∃ (n : Nat) (x y : Int) (out : List Cl), out.length + n = L ∧ Hid (Below Cb w5 wr) ∧ Hid (Blk wr Cb [.int .i64 x, .int .i64 y] 27) ∧ Hid (OwnC wr (Cb + 1) ov out) ∧ Hid (ds m bl (bx, by_) n (x, y) = true) ∧ Hid (inn m (x, y) = true) ∧ Hid (out ++ way m bl (bx, by_) n (x, y) = way m bl (bx, by_) L (ax, ay))) (fun ov _ => 1 + L - (match ov with | .slice _ k _ => k | _ => 0))
            case atStart => exact ⟨L, ax, ay, [], by simp, HBV, HCV, OwnC.nil _ _, HDSA, HA, HAL⟩
            case round =>
              clear HBV HCV HAL HDSA HA
              obtain ⟨n, x, y, out, hol, HR1, HC1, HO1, HD1, HI1, HG1⟩ := hrel
              obtain ⟨c0, c1⟩ : wr.cell? ⟨Cb, 0, none⟩ = some (.int .i64 x) ∧ wr.cell? ⟨Cb, 1, none⟩ = some (.int .i64 y) := ⟨HC1.out.cell 0, HC1.out.cell 1⟩
              have HRW : Hid (Below W.heap.size W wr) := hid (HB5.out.trans (HR1.out.mono (by rw [HCE.out 0]; exact HB5.out.size)))
              obtain ⟨b0, b1, b2, b3, b4, b5, b6, b7⟩ := HK.out wr HRW.out
              obtain ⟨pn, capn, rfl⟩ := HO1.out.form
              cases n with
              | zero =>
                have hxy := ds_zero.1 HD1.out
                simp only [Prod.mk.injEq] at hxy
                obtain ⟨rfl, rfl⟩ := hxy
                have hsm : diffC x y x y = false := decide_eq_false (fun h => h rfl)
                have HGW : Hid (out = way m bl (x, y) L (ax, ay)) := by have := HG1.out; rw [way, List.append_nil] at this; exact hid this
                have HE := HBE.out _ HRW.out
                have HBC : Hid (B ≤ Cb + 1) := hid (by have h5 := (HBE.out _ HB5.out).size; have h6 := HCE.out 0; have h7 := HB.out 0; omega)
                go_wp2
                go_ret2
                rw [← HGW.out]
                have HBo := HB.out 0
                first
                  | exact ⟨_, rfl, HO1.out.mono HBC.out, HE⟩
                  | (rw [← HBo]; rw [← HBo] at HE; exact ⟨_, rfl, HO1.out.mono HBC.out, HE⟩)
              | succ n =>
                have hne : (x, y) ≠ (bx, by_) := fun he => by
                  have h0 := ds_unique (ds_zero.2 he) HD1.out
                  omega
                have hsm : diffC x y bx by_ = true := decide_eq_true hne
                clear hne
                have HNR := hid (H27.out x y wr HI1.out (HBE.out _ HRW.out))
                obtain ⟨hw1, hw2, hw3⟩ := HWY.out n (x, y) (by omega) HD1.out
                go_wp2_with fail
                refine Calls.mono HNR.out ?_
                rintro _ w8 ⟨vn, rfl, hon, hb8⟩
                have HDX : Hid (distV m bl (bx, by_) (x, y) = (n : Int) + 1) := HDXX.out n (x, y) HI1.out (by omega) HD1.out
                have hw8 : Below wr.heap.size wr w8 := ⟨hb8.os, hb8.tape, hb8.output, hb8.size, hb8.block⟩
                have HL4 : Hid ((nr m (x, y)).length ≤ 4) := HNL4.out (x, y)
                have HMEM : Hid (∀ k, k < (nr m (x, y)).length → inn m ((nr m (x, y)).getD k (0, 0)) = true) := hid fun k hk => HNI.out (x, y) _ (by
                  rw [List.getD_eq_getElem?_getD, List.getElem?_eq_getElem hk]
                  exact List.getElem_mem hk)
                have HYES : Hid (∀ k, k < (nr m (x, y)).length → fits m bl (bx, by_) n ((nr m (x, y)).getD k (0, 0)) = true → nxt (fits m bl (bx, by_) n) (nr m (x, y)) (x, y) k = (nr m (x, y)).getD k (0, 0)) := hid fun k hk h => nxt_yes hk h
                have HNO2 : Hid (∀ k, k < (nr m (x, y)).length → fits m bl (bx, by_) n ((nr m (x, y)).getD k (0, 0)) = false → nxt (fits m bl (bx, by_) n) (nr m (x, y)) (x, y) k = nxt (fits m bl (bx, by_) n) (nr m (x, y)) (x, y) (k + 1)) := hid fun k hk h => nxt_no hk h
                have HEND : Hid (nxt (fits m bl (bx, by_) n) (nr m (x, y)) (x, y) (nr m (x, y)).length = (x, y)) := hid (nxt_end _ _ _)
                have hon' : OwnC w8 wr.heap.size vn (nr m (x, y)) := hon
                obtain ⟨l, hl⟩ : ∃ l, l = nr m (x, y) := ⟨_, rfl⟩
                rw [← hl] at HL4 HMEM HYES HNO2 HEND hw1 hw2 hw3 hon'
                obtain ⟨F, hF⟩ : ∃ F, F = nxt (fits m bl (bx, by_) n) l (x, y) := ⟨_, rfl⟩
                rw [← hF] at HYES HNO2 HEND hw1 hw2 hw3
                have HW1 := hid hw1
                have HW2 := hid hw2
                have HW3 := hid hw3
                have HWR : Hid (Cb < wr.heap.size) := hid (Blk.lt HC1.out)
                have HR8 : Hid (Below Cb w5 w8) := hid (HR1.out.trans (hw8.mono (by have := HWR.out; omega)))
                have HC8 : Hid (Blk w8 Cb [.int .i64 x, .int .i64 y] 27) := hid (Blk.below HC1.out hw8 HWR.out)
                have HO8 : Hid (OwnC w8 (Cb + 1) (.slice pn out.length capn) out) := hid (HO1.out.below hw8)
                have HON := hid hon'
                obtain ⟨pl, capl, rfl⟩ := hon'.form
                have HLX : Hid (wrap64 ((l.length : Int) - 1) = (l.length : Int) - 1) := hid (by have := HL4.out; unfold wrap64; omega)
                clear hw1 hw2 hw3 hw8 hb8 hon hon' hl hF HNR hsm c0 c1 b0 b1 b2 b3 b4 b5 b6 b7 HR1 HC1 HO1 HRW
                have HRW : Hid (Below W.heap.size W w8) := hid (HB5.out.trans (HR8.out.mono (by rw [HCE.out 0]; exact HB5.out.size)))
                obtain ⟨c0, c1⟩ : w8.cell? ⟨Cb, 0, none⟩ = some (.int .i64 x) ∧ w8.cell? ⟨Cb, 1, none⟩ = some (.int .i64 y) := ⟨HC8.out.cell 0, HC8.out.cell 1⟩
                obtain ⟨V, hV⟩ : ∃ V, V = w8.alloc (.cells #[Value.int .i64 x, .int .i64 y] 27) := ⟨_, rfl⟩
                obtain ⟨X, hX⟩ : ∃ X, X = w8.heap.size := ⟨_, rfl⟩
                have HXC : Hid (Cb < X) := hid (by have := Blk.lt HC8.out; omega)
                have HVB : Hid (Below X w8 V) := by rw [hV, hX]; exact hid ((Below.refl _ _).alloc (Nat.le_refl _) _)
                have HVX : Hid (Blk V X [.int .i64 x, .int .i64 y] 27) := by rw [hV, hX]; exact hid (Blk.new _ _ _)
                have HXE := hid (fun (_ : Nat) => hX)
                have HV8 : Hid (Blk V X [.int .i64 (F l.length).1, .int .i64 (F l.length).2] 27) := by rw [HEND.out]; exact HVX
                go_upto_region 17 with fail
                rw [← hV, ← hX]
                clear hV hX c0 c1 HVX
                go_upto_region 18 with fail
                rw [HLX.out]
                go_loopw [19] (fun kv wr => ∃ k : Nat, k ≤ l.length ∧ kv = .int .i64 ((k : Int) - 1) ∧ Hid (Below X w8 wr) ∧ Hid (Blk wr X [.int .i64 (F k).1, .int .i64 (F k).2] 27)) (fun kv _ => (intOf kv + 1).toNat)
                case atStart => exact ⟨l.length, Nat.le_refl _, rfl, HVB, HV8⟩
                case round =>
                  clear HVB HV8
                  obtain ⟨k, hk, rfl, HR9, HX9⟩ := hrel
                  have hb9 : Below w8.heap.size w8 wr := by rw [← HXE.out 0]; exact HR9.out
                  have HRW9 : Hid (Below W.heap.size W wr) := hid (HRW.out.trans (hb9.mono HRW.out.size))
                  have HR10 : Hid (Below Cb w5 wr) := hid (HR8.out.trans (hb9.mono (by have := HXC.out; have := HXE.out 0; omega)))
                  have HC9 : Hid (Blk wr Cb [.int .i64 x, .int .i64 y] 27) := hid (Blk.below HC8.out hb9 (Blk.lt HC8.out))
                  cases k with
                  | succ k =>
                    have ek : ((k + 1 : Nat) : Int) - 1 = (k : Int) := by omega
                    rw [ek]
                    clear ek
                    have hkl : k < l.length := hk
                    have hk0 : (0 : Int) ≤ (k : Int) := by omega
                    have hkl' : (k : Int) < (l.length : Int) := by omega
                    have HKK := hid hkl
                    obtain ⟨sb, so, rfl, d0', d1'⟩ := (HON.out.below hb9).cells.at hkl
                    have hinn := HMEM.out k hkl
                    have HY1 := hid (HYES.out k hkl)
                    have HN1 := hid (HNO2.out k hkl)
                    obtain ⟨⟨nx, ny⟩, hnn⟩ : ∃ c, c = l.getD k (0, 0) := ⟨_, rfl⟩
                    rw [← hnn] at hinn HY1 HN1 d0' d1'
                    simp only at d0' d1'
                    clear hnn hk hkl
                    obtain ⟨j1, j2, j3, j4, j5⟩ := HIX'.out _ hinn
                    obtain ⟨i1, i2, i3, i4, i5⟩ := HIX'.out _ HI1.out
                    simp only at j2 j3 j4 i2 i3 i4
                    have hBB9 : BB wr O no := Blk.below HBB5.out HR10.out (by have := HOD.out; have := HDb.out; omega)
                    have hIB9 : IB wr D d := Blk.below HIB.out HR10.out HDb.out
                    have o0 := hBB9.cell (i := idx m (nx, ny)) (by rw [HNL.out]; exact j1)
                    rw [HNV'.out _ j1, j5] at o0
                    have cj := hIB9.cell (i := idx m (nx, ny)) (by rw [HDL.out]; exact j1)
                    rw [HDV.out _ j1, j5] at cj
                    have ci := hIB9.cell (i := idx m (x, y)) (by rw [HDL.out]; exact i1)
                    rw [HDV.out _ i1, i5, HDX.out] at ci
                    have hft := HFT2.out n nx ny
                    generalize idx m (nx, ny) = j at *
                    generalize idx m (x, y) = i at *
                    generalize pass m bl (nx, ny) = pv at *
                    generalize distV m bl (bx, by_) (nx, ny) = dj at *
                    have hwm : IntKind.i64.wrap (ny * mW) = ny * mW := by rw [IntKind.wrap_i64]; omega
                    have hwa : IntKind.i64.wrap (ny * mW + nx) = (j : Int) := by rw [j2, IntKind.wrap_i64]; have := HT4.out; omega
                    have hwm' : wrap64 (ny * mW) = ny * mW := by unfold wrap64; omega
                    have hwa' : wrap64 (ny * mW + nx) = (j : Int) := by rw [j2]; unfold wrap64; have := HT4.out; omega
                    have hvm : IntKind.i64.wrap (y * mW) = y * mW := by rw [IntKind.wrap_i64]; omega
                    have hva : IntKind.i64.wrap (y * mW + x) = (i : Int) := by rw [i2, IntKind.wrap_i64]; have := HT4.out; omega
                    have hvn : IntKind.i64.wrap ((n : Int) + 1 - 1) = (n : Int) := by rw [IntKind.wrap_i64]; omega
                    have hj0 : (0 : Int) ≤ (j : Int) := by omega
                    have hjT : (j : Int) < (T : Int) := by omega
                    have hi0 : (0 : Int) ≤ (i : Int) := by omega
                    have hiT : (i : Int) < (T : Int) := by omega
                    obtain ⟨b0, b1, b2, b3, b4, b5, b6, b7⟩ := HK.out wr HRW9.out
                    obtain ⟨c0, c1⟩ : wr.cell? ⟨Cb, 0, none⟩ = some (.int .i64 x) ∧ wr.cell? ⟨Cb, 1, none⟩ = some (.int .i64 y) := ⟨HC9.out.cell 0, HC9.out.cell 1⟩
                    clear j1 j2 j3 j4 j5 i1 i2 i3 i4 i5 hinn hBB9 hIB9 hb9
                    go_upto_region 20 with fail
                    go_still (by kernel_rfl)
                    have HWK : Hid (wrap64 ((k : Int) - 1) = (k : Int) - 1) := hid (by have := HL4.out; have := HKK.out; unfold wrap64; omega)
                    have HR11 := hid (fun n => hid (Below.drewN HR9.out n))
                    rcases hsv : sameC nx ny bx by_ with _ | _
                    case' false => rcases pv with _ | _
                    case' false.false =>
                      rw [hsv] at hft
                      have HFK : Hid (F k = F (k + 1)) := HN1.out hft
                      clear hft
                      go_upto_region 21 with fail
                      go_quiet (fail)
                      go_wp2
                      go_roundw
                      case rel => exact ⟨k, Nat.le_of_lt HKK.out, by first | (rw [HWK.out]) | simp, HR11.out _, by rw [HFK.out]; exact HX9⟩
                      case measure =>
                        first
                          | (simp [intOf]; have h := HWK.out; omega)
                          | (simp [intOf]; omega)
                    all_goals
                      replace hft : _ = (true && dj == (n : Int)) := hft.trans (by rw [hsv]; rfl)
                      rw [Bool.true_and] at hft
                      by_cases hdj : dj = (n : Int)
                      · have HFK : Hid (F k = (nx, ny)) := HY1.out (by rw [hft, hdj]; simp)
                        have e1 : (dj == (n : Int)) = true := by rw [hdj]; simp
                        have z0 := Blk.frozen HX9.out 0
                        have z1 := Blk.frozen HX9.out 1
                        have x0 := HX9.out.cell 0
                        have x1 := HX9.out.cell 1
                        have hT := turn_two wr X (.int .i64 nx) (.int .i64 ny)
                        have HRV : Hid (∀ n, Hid (Below X w8 (((wr.setCell ⟨X, 0, none⟩ (.int .i64 nx)).setCell ⟨X, 1, none⟩ (.int .i64 ny)).drewN n))) := hid fun n => hid (Below.drewN (HR9.out.trans (hT.below (Nat.le_refl _))) n)
                        have HXV : Hid (∀ n, Hid (Blk (((wr.setCell ⟨X, 0, none⟩ (.int .i64 nx)).setCell ⟨X, 1, none⟩ (.int .i64 ny)).drewN n) X [.int .i64 (F k).1, .int .i64 (F k).2] 27)) := hid fun n => by
                          rw [HFK.out]
                          exact hid (((HX9.out.set 0 (.int .i64 nx)).set 1 (.int .i64 ny)).drewN n)
                        clear hft hdj hT
                        go_upto_region 21 with fail
                        go_quiet (fail)
                        go_wp2
                        go_roundw
                        case rel => exact ⟨k, Nat.le_of_lt HKK.out, by first | (rw [HWK.out]) | simp, HRV.out _, HXV.out _⟩
                        case measure =>
                          first
                            | (simp [intOf]; have h := HWK.out; omega)
                            | (simp [intOf]; omega)
                      · have HFK : Hid (F k = F (k + 1)) := HN1.out (by rw [hft]; simpa using hdj)
                        have e1 : (dj == (n : Int)) = false := by simpa using hdj
                        clear hft hdj
                        go_upto_region 21 with fail
                        go_quiet (fail)
                        go_wp2
                        go_roundw
                        case rel => exact ⟨k, Nat.le_of_lt HKK.out, by first | (rw [HWK.out]) | simp, HR11.out _, by rw [HFK.out]; exact HX9⟩
                        case measure =>
                          first
                            | (simp [intOf]; have h := HWK.out; omega)
                            | (simp [intOf]; omega)
                  | zero =>
                    obtain ⟨⟨fx, fy⟩, hf0⟩ : ∃ c, c = F 0 := ⟨_, rfl⟩
                    rw [← hf0] at HX9 HW1 HW2 HW3
                    have HX10 : Hid (Blk wr X [.int .i64 fx, .int .i64 fy] 27) := HX9
                    have x0 := HX10.out.cell 0
                    have x1 := HX10.out.cell 1
                    obtain ⟨c0, c1⟩ : wr.cell? ⟨Cb, 0, none⟩ = some (.int .i64 x) ∧ wr.cell? ⟨Cb, 1, none⟩ = some (.int .i64 y) := ⟨HC9.out.cell 0, HC9.out.cell 1⟩
                    have z0 := Blk.frozen HC9.out 0
                    have z1 := Blk.frozen HC9.out 1
                    have hT := turn_two wr Cb (.int .i64 fx) (.int .i64 fy)
                    obtain ⟨U, hU⟩ : ∃ U, U = (wr.setCell ⟨Cb, 0, none⟩ (.int .i64 fx)).setCell ⟨Cb, 1, none⟩ (.int .i64 fy) := ⟨_, rfl⟩
                    have HCU : Hid (Blk U Cb [.int .i64 fx, .int .i64 fy] 27) := by rw [hU]; exact hid ((HC9.out.set 0 (.int .i64 fx)).set 1 (.int .i64 fy))
                    rw [← hU] at hT
                    have HRU : Hid (Below Cb w5 U) := hid (HR10.out.trans (hT.below (Nat.le_refl _)))
                    have HOW : Hid (OwnC wr (Cb + 1) (.slice pn out.length capn) out) := hid (HO8.out.below hb9)
                    have HOU : Hid (OwnC U (Cb + 1) (.slice pn out.length capn) out) := hid (OwnC.stay HOW.out fun j hj => hT.block j (by have := (HOW.out.block j hj).1; omega))
                    have HGN : Hid ((out ++ [(fx, fy)]) ++ way m bl (bx, by_) n (fx, fy) = way m bl (bx, by_) L (ax, ay)) := hid (by
                      have := HG1.out
                      rw [HW1.out] at this
                      rw [List.append_assoc]
                      exact this)
                    clear hf0 hT hb9 HX9 hk
                    go_upto_region 24 with fail
                    rw [← hU]
                    clear hU x0 x1 c0 c1 z0 z1
                    have c0 := HCU.out.cell 0
                    have c1 := HCU.out.cell 1
                    obtain ⟨A, hA⟩ : ∃ A, A = U.alloc (.cells #[Value.int .i64 fx, .int .i64 fy] 27) := ⟨_, rfl⟩
                    have HAB : Hid (Below U.heap.size U A) := by rw [hA]; exact hid ((Below.refl _ _).alloc (Nat.le_refl _) _)
                    have HAG : Hid (Blk A U.heap.size [.int .i64 (fx, fy).1, .int .i64 (fx, fy).2] 27) := by rw [hA]; exact hid (Blk.new _ _ _)
                    have HOA := hid (HOU.out.below HAB.out)
                    have HUS : Hid (Cb < U.heap.size) := hid (Blk.lt HCU.out)
                    have HRA : Hid (Below Cb w5 A) := hid (HRU.out.trans (HAB.out.mono (Nat.le_of_lt HUS.out)))
                    have HCA : Hid (Blk A Cb [.int .i64 fx, .int .i64 fy] 27) := hid (Blk.below HCU.out HAB.out HUS.out)
                    have HSA : Hid (Cb + 1 ≤ A.heap.size) := hid (Blk.lt HCA.out)
                    have HSL : Hid (out.length ≤ 1000000) := hid (by omega)
                    rw [hA] at HAG HOA HRA HCA HSA
                    clear hA HAB
                    go_wp2_with (first
                      | ((with_reducible refine wpL_appendC (Cb + 1) (.slice pn out.length capn) U.heap.size out (fx, fy) ?_ ?_ HOA.out HAG.out HSL.out HSA.out ?_); (rfl); (rfl); (intro v' w4 ho4 hg4); (have HB4 := hid (hg4.belowC HOA.out HSA.out)); (have HO4 := hid ho4); (obtain ⟨pn2, cap2, rfl⟩ := ho4.form); clear ho4 hg4; (simp only [Act.put, List.setIfInBounds_toArray, List.set_cons_zero, List.set_cons_succ])))
                    have HR12 : Hid (Below Cb w5 w4) := hid (HRA.out.trans (HB4.out.mono (Nat.le_succ Cb)))
                    have HC12 : Hid (Blk w4 Cb [.int .i64 fx, .int .i64 fy] 27) := hid (Blk.below HCA.out HB4.out (Nat.lt_succ_self Cb))
                    go_roundw
                    case rel => exact ⟨n, fx, fy, out ++ [(fx, fy)], by simp; omega, HR12, HC12, HO4, HW2, HW3, HGN⟩
                    case measure => simp; omega
end Go.Proofs.Ytemcbonmlmobkaa
