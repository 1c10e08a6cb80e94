/- The law PathRests, walked. -/
import Derived.Test.YtemcbonmlmobkaaRestWay
import Derived.Test.YtemcbonmlmobkaaIn
import Derived.Test.YtemcbonmlmobkaaOpen4
import Derived.Test.YtemcbonmlmobkaaRefS
namespace Go.Proofs.Ytemcbonmlmobkaa
open Go.RowKit
attribute [local go_sem ↓] run_neqC run_eqlC
/-- What is left of a row of cells. -/
theorem CellsAt.drop {w : World} {sb so N cap : Nat} {xs : List Cl} (h : CellsAt w (.slice (some ⟨sb, so, none⟩) N cap) xs) (k c : Nat) : CellsAt w (.slice (some ⟨sb, so + k * 2, none⟩) (N - k) c) (xs.drop k) := by
  obtain ⟨q, c', e, h⟩ := h
  simp only [Value.slice.injEq] at e
  obtain ⟨rfl, rfl, _⟩ := e
  refine ⟨some ⟨sb, so + k * 2, none⟩, c, by rw [List.length_drop], fun hne => ⟨sb, so + k * 2, rfl, fun i hi => ?_⟩⟩
  rw [List.length_drop] at hi
  obtain ⟨sb', so', e, h⟩ := h (by intro h0; rw [h0] at hi; simp at hi)
  simp only [Option.some.injEq, Addr.mk.injEq] at e
  obtain ⟨rfl, rfl, _⟩ := e
  obtain ⟨h1, h2⟩ := h (k + i) (by omega)
  have e1 : (xs.drop k).getD i (0, 0) = xs.getD (k + i) (0, 0) := by simp [List.getD_eq_getElem?_getD, List.getElem?_drop]
  rw [e1]
  exact ⟨by rw [← h1]; congr 2; omega, by rw [← h2]; congr 2; omega⟩
theorem CellsAt.drop_all {w : World} {q : Option Addr} {c : Nat} {xs : List Cl} {k : Nat} (hk : xs.length ≤ k) : CellsAt w (.slice q 0 c) (xs.drop k) := by
  rw [List.drop_eq_nil_of_le hk]
  exact ⟨q, c, rfl, fun h => absurd rfl h⟩
theorem stepV_of {m : Mp} {bl : List Cl} {a b : Cl} {n : Nat} (hf : formed m = true) (ha : inn m a = true) (hb : inn m b = true) (hd : ds m bl b n a = true) (hn : n ≤ 1000) : stepV (findV m bl a b 9223372036854775807) = if 0 < n then ((way m bl b n a).getD 0 (0, 0), true) else ((0, 0), false) := by
  rw [findV_at hf ha hb hd hn (by omega)]
  unfold stepV
  have hl := way_length hd
  by_cases h0 : 0 < n
  · rw [if_pos h0, if_pos ⟨rfl, by intro h; simp only at h; rw [h] at hl; simp at hl; omega⟩]
  · rw [if_neg h0, if_neg (by rintro ⟨_, h⟩; simp only at h; exact h (List.eq_nil_of_length_eq_zero (by omega)))]
theorem OwnC.cap {w : World} {b : Nat} {p : Option Addr} {n c : Nat} {xs : List Cl} (h : OwnC w b (.slice p n c) xs) : xs.length ≤ c := by
  obtain ⟨_, ⟨e, hn⟩ | ⟨g, cap, cur, e, _, _, hc, _⟩⟩ := h
  · rw [hn]; omega
  · simp only [Value.slice.injEq] at e
    omega
set_option maxHeartbeats 4000000 in
theorem rests_walk (m : Mp) (v : Value) (p : Option Addr) (N cap : Nat) (bl : List Cl) (x0 y0 x1 y1 : Int) (w : World) (hm : MapAt w v m) (hbl : CellsAt w (.slice p N cap) bl) :
    Calls Try.prog 5 #[v, .slice p N cap, .agg #[.int .i64 x0, .int .i64 y0, .int .i64 x1, .int .i64 y1]] w fun e w' => Out w (.bool true) e w' := by
  have h8 : Hid (∀ W, Calls Try.prog 8 #[] W fun e w' => Out W (.bool true) e w') := awake_any
  have HLN : Hid (N = bl.length) := by
    obtain ⟨q, c, e, _⟩ := hbl
    simp only [Value.slice.injEq] at e
    exact e.2.1
  have h12 : Hid (N ≤ 300 → ∀ W, Below w.heap.size w W → Calls Try.prog 12 #[v, .slice p N cap, C x0 y0, C x1 y1] W fun e w' => Out W (.tuple #[C (stepV (findV m bl (x0, y0) (x1, y1) 9223372036854775807)).1.1 (stepV (findV m bl (x0, y0) (x1, y1) 9223372036854775807)).1.2, .bool (stepV (findV m bl (x0, y0) (x1, y1) 9223372036854775807)).2]) e w') := fun hN W h => step_any m v _ bl x0 y0 x1 y1 W (hm.below h) (hbl.below h) (by rw [← HLN.out]; omega)
  have h10 : Hid (N ≤ 300 → ∀ ax ay bx by_ W, Below w.heap.size w W → Calls Try.prog 10 #[v, .slice p N cap, C ax ay, C bx by_, .int .i64 1000] W fun e w' => OutFind W (findV m bl (ax, ay) (bx, by_) 1000) e w') := fun hN ax ay bx by_ W h => find_any m v _ bl ax ay bx by_ 1000 W (hm.below h) (hbl.below h) (by rw [← HLN.out]; omega)
  have h14 : Hid (∀ (cs : List Cl) p q N c c' W, CellsAt W (.slice p N c) cs → CellsAt W (.slice q N c') cs → N < 1000000000 → Calls Try.prog 14 #[.slice p N c, .slice q N c'] W fun e w' => Out W (.bool true) e w') := fun cs p q N c c' W h1 h2 h3 => refSameCells cs p q N c c' W h1 h2 h3
  have HF : Hid (∀ l e, findV m bl (x0, y0) (x1, y1) 1000 = (l, e) → e ≠ 0 ∨ e = 0 ∧ l.length ≤ 1000 ∧ (∀ i, i < l.length → findV m bl (l.getD i (0, 0)) (x1, y1) 1000 = (l.drop (i + 1), 0)) ∧ stepV (findV m bl (x0, y0) (x1, y1) 9223372036854775807) = if 0 < l.length then (l.getD 0 (0, 0), true) else ((0, 0), false)) := by
    intro l e h
    rcases findV_ok h with ⟨he, n, hf, ha, hb, hd, hn, hl, hln⟩ | ⟨he, _⟩
    · refine Or.inr ⟨he, by omega, fun i hi => ?_, ?_⟩
      · obtain ⟨k1, k2, k3⟩ := way_rest hf hd i (by omega)
        rw [hl, ← k3]
        exact findV_at hf k1 hb k2 (by omega) (by omega)
      · rw [stepV_of hf ha hb hd hn, hln, hl]
    · exact Or.inl he
  obtain ⟨q1, c1, q2, c2, rfl, -, -⟩ := hm
  have h9 : Hid (∀ W, Calls Try.prog 9 #[.agg #[.int .i64 m.W, .int .i64 m.H, .slice q1 m.ts.length c1, .slice q2 m.os.length c2], .slice p N cap] W fun e w' => Out W (.bool (decide (m.ts.length ≤ 1000) && decide (m.os.length ≤ 1000) && decide (N ≤ 300))) e w') := fun W => few_any m.W m.H q1 q2 p m.ts.length m.os.length N c1 c2 cap W
  obtain ⟨FW, hFW⟩ : ∃ FW, FW = (decide (m.ts.length ≤ 1000) && decide (m.os.length ≤ 1000) && decide (N ≤ 300)) := ⟨_, rfl⟩
  have HFW : Hid (FW = true → N ≤ 300) := fun h => by
    rw [hFW] at h
    simp only [Bool.and_eq_true, decide_eq_true_eq] at h
    exact h.2
  rw [← hFW] at h9
  obtain ⟨S1, hS1⟩ : ∃ z, z = Value.slice q1 m.ts.length c1 := ⟨_, rfl⟩
  obtain ⟨S2, hS2⟩ : ∃ z, z = Value.slice q2 m.os.length c2 := ⟨_, rfl⟩
  obtain ⟨S3, hS3⟩ : ∃ z, z = Value.slice p N cap := ⟨_, rfl⟩
  obtain ⟨mW, hmW⟩ : ∃ z, z = m.W := ⟨_, rfl⟩
  obtain ⟨mH, hmH⟩ : ∃ z, z = m.H := ⟨_, rfl⟩
  rw [← hS1, ← hS2, ← hmW, ← hmH] at h12 h10 h9 ⊢
  rw [← hS3] at h12 h10 h9 ⊢
  clear hS1 hS2 hS3 hmW hmH hFW hbl
  generalize stepV (findV m bl (x0, y0) (x1, y1) 9223372036854775807) = SV at *
  unfold C Out at *
  go_enter Try.func5, Try.ntmps5
  go_upto_region 1 with fail
  obtain ⟨W, hW⟩ : ∃ W, W = ((w.alloc (.cells #[Value.int .i64 mW, .int .i64 mH, S1, S2] 24)).alloc (.cells #[Value.int .i64 x0, .int .i64 y0, .int .i64 x1, .int .i64 y1] 28)) := ⟨_, rfl⟩
  obtain ⟨B, hB⟩ : ∃ B, B = w.heap.size := ⟨_, rfl⟩
  have HWB : Hid (Below w.heap.size w W) := by rw [hW]; exact ((Below.refl _ _).alloc (Nat.le_refl _) _).alloc (by simp) _
  have HK1 : Hid (Blk W B [.int .i64 mW, .int .i64 mH, S1, S2] 24) := by rw [hW, hB]; exact (Blk.new _ _ _).alloc _
  have HK2 : Hid (Blk W (B + 1) [.int .i64 x0, .int .i64 y0, .int .i64 x1, .int .i64 y1] 28) := by rw [hW]; exact Blk.new' _ _ _ _ (by simp [hB])
  rw [← hW, ← hB]
  clear hW hB
  go_wp2_with fail
  refine Calls.mono (h8.out W) ?_
  rintro e w2 ⟨rfl, hb2⟩
  have HW2 := hid (HWB.out.trans (hb2.mono HWB.out.size))
  have HM2 := hid (HK1.out.below hb2 HK1.out.lt)
  have HG2 := hid (HK2.out.below hb2 HK2.out.lt)
  have m0 : w2.cell? ⟨B, 0, none⟩ = some (.int .i64 mW) := HM2.out.cell 0
  have m1 : w2.cell? ⟨B, 1, none⟩ = some (.int .i64 mH) := HM2.out.cell 1
  have m2 : w2.cell? ⟨B, 2, none⟩ = some S1 := HM2.out.cell 2
  have m3 : w2.cell? ⟨B, 3, none⟩ = some S2 := HM2.out.cell 3
  clear hb2 HWB HK1 HK2
  go_wp2_with fail
  refine Calls.mono (h9.out w2) ?_
  rintro e w3 ⟨rfl, hb3⟩
  have HW3 := hid (HW2.out.trans (hb3.mono HW2.out.size))
  have HM3 := hid (HM2.out.below hb3 HM2.out.lt)
  have HG3 := hid (HG2.out.below hb3 HG2.out.lt)
  clear hb3 HW2 HM2 HG2 m0 m1 m2 m3
  rcases FW with _ | _
  · go_wp2_with fail
    refine Calls.mono (h8.out w3) ?_
    rintro e w4 ⟨rfl, hb4⟩
    have HB4 := hid (HW3.out.trans (hb4.mono HW3.out.size))
    clear hb4
    go_wp2
    go_ret
    exact ⟨rfl, HB4.out⟩
  · have hN := HFW.out rfl
    have H12 := hid (h12.out hN)
    have H10 := hid (h10.out hN)
    clear h12 h10 h9 h8 HFW hN
    have H10a := hid (H10.out x0 y0 x1 y1)
    obtain ⟨R, hR⟩ : ∃ R, R = findV m bl (x0, y0) (x1, y1) 1000 := ⟨_, rfl⟩
    rw [← hR] at H10a
    obtain ⟨l, e⟩ := R
    have HFl := HF.out l e hR.symm
    clear hR HF
    have c0 : w3.cell? ⟨B + 1, 0, none⟩ = some (.int .i64 x0) := HG3.out.cell 0
    have c1 : w3.cell? ⟨B + 1, 1, none⟩ = some (.int .i64 y0) := HG3.out.cell 1
    have c2 : w3.cell? ⟨B + 1, 2, none⟩ = some (.int .i64 x1) := HG3.out.cell 2
    have c3 : w3.cell? ⟨B + 1, 3, none⟩ = some (.int .i64 y1) := HG3.out.cell 3
    have m0 : w3.cell? ⟨B, 0, none⟩ = some (.int .i64 mW) := HM3.out.cell 0
    have m1 : w3.cell? ⟨B, 1, none⟩ = some (.int .i64 mH) := HM3.out.cell 1
    have m2 : w3.cell? ⟨B, 2, none⟩ = some S1 := HM3.out.cell 2
    have m3 : w3.cell? ⟨B, 3, none⟩ = some S2 := HM3.out.cell 3
    go_wp2_with fail
    refine Calls.mono (H10a.out w3 HW3.out) ?_
    rintro e' w4 ⟨s, rfl, ho, hb4⟩
    have HW4 := hid (HW3.out.trans (hb4.mono HW3.out.size))
    have HM4 := hid (HM3.out.below hb4 HM3.out.lt)
    have HG4 := hid (HG3.out.below hb4 HG3.out.lt)
    have HO4 := hid ho
    obtain ⟨p2, k2, rfl⟩ := ho.form
    clear hb4 ho HW3 HM3 HG3 c0 c1 c2 c3 m0 m1 m2 m3 H10a
    rcases HFl with he | ⟨rfl, hl, hrest, hstep⟩
    · have hne : (e != 0) = true := by simpa using he
      go_wp2
      go_ret
      exact ⟨rfl, HW4.out⟩
    · have HRT := hid hrest
      have HST := hid hstep
      obtain ⟨n, hn⟩ : ∃ n, n = l.length := ⟨_, rfl⟩
      rw [← hn] at hl HRT HST ⊢
      have HN := hid (fun (_ : Nat) => hn)
      have HCP : Hid (n ≤ k2) := hid (by rw [hn]; exact HO4.out.cap)
      clear hrest hstep hn
      go_upto_region 7 with fail
      have HB0 := hid (Below.refl w4.heap.size w4)
      go_loopw [9] (fun iv wr => ∃ i, iv = .int .i64 ((i : Nat) : Int) ∧ i ≤ n ∧ Hid (Below w4.heap.size w4 wr)) (fun iv _ => 1001 - (intOf iv).toNat)
      case atStart => exact ⟨0, rfl, by omega, HB0⟩
      case round =>
        clear HB0
        obtain ⟨i, rfl, hi, HB1⟩ := hrel
        have HW1 := hid (HW4.out.trans (HB1.out.mono HW4.out.size))
        by_cases hl2 : i < n
        · have hl' : (i : Int) < (n : Int) := by omega
          have hi0 : (0 : Int) ≤ (i : Int) := Int.natCast_nonneg _
          obtain ⟨sb, so, rfl, d0, d1⟩ := HO4.out.cells.at (i := i) (by rw [← HN.out 0]; exact hl2)
          have hsb := lt_of_cell d0
          have HRi := hid (HRT.out i hl2)
          generalize hgz : l.getD i (0, 0) = z at *
          obtain ⟨z1, z2⟩ := z
          simp only at d0 d1
          have H10i := hid (H10.out z1 z2 x1 y1)
          rw [HRi.out] at H10i
          have q0 : ∀ z : Nx w4, z.w.cell? ⟨sb, so + i * 2, none⟩ = some (.int .i64 z1) := fun z => by rw [z.h.cell (p := ⟨sb, so + i * 2, none⟩) hsb]; exact d0
          have q1 : ∀ z : Nx w4, z.w.cell? ⟨sb, so + i * 2 + 1, none⟩ = some (.int .i64 z2) := fun z => by rw [z.h.cell (p := ⟨sb, so + i * 2 + 1, none⟩) hsb]; exact d1
          have c2 : ∀ z : Nx w4, z.w.cell? ⟨B + 1, 2, none⟩ = some (.int .i64 x1) := fun z => (HG4.out.below z.h HG4.out.lt).cell 2
          have c3 : ∀ z : Nx w4, z.w.cell? ⟨B + 1, 3, none⟩ = some (.int .i64 y1) := fun z => (HG4.out.below z.h HG4.out.lt).cell 3
          have m0 : ∀ z : Nx w4, z.w.cell? ⟨B, 0, none⟩ = some (.int .i64 mW) := fun z => (HM4.out.below z.h HM4.out.lt).cell 0
          have m1 : ∀ z : Nx w4, z.w.cell? ⟨B, 1, none⟩ = some (.int .i64 mH) := fun z => (HM4.out.below z.h HM4.out.lt).cell 1
          have m2 : ∀ z : Nx w4, z.w.cell? ⟨B, 2, none⟩ = some S1 := fun z => (HM4.out.below z.h HM4.out.lt).cell 2
          have m3 : ∀ z : Nx w4, z.w.cell? ⟨B, 3, none⟩ = some S2 := fun z => (HM4.out.below z.h HM4.out.lt).cell 3
          have HBd := hid (below_drew HB1.out)
          clear hgz d0 d1 HRi
          go_upto_region 9 with fail
          refine wp_region_calm (S := fun w' => ∃ z : Nx w4, w' = z.w) [(0, false), (1, false), (2, false), (3, false), (4, false), (5, false), (6, false), (7, false), (8, true), (9, false), (10, false), (11, false), (12, true), (13, true)] (by kernel_rfl) (by kernel_rfl) rfl (by kernel_rfl) ⟨⟨wr.drew, HBd.out⟩, rfl⟩ ?_
          repeat (refine plan_take rfl (fun K hK => ?_); go_simp; refine ⟨_, fun _ => rfl, hK _ ?_⟩; clear hK K)
          refine plan_turn rfl (fun K hK => ?_)
          go_simp
          refine Calls.mono (H10i.out _ (HW4.out.trans (HBd.out.mono HW4.out.size))) ?_
          rintro _ w5 ⟨s, rfl, ho, hb5⟩
          obtain ⟨pr, kr, rfl⟩ := ho.form
          have hld : (l.drop (i + 1)).length = n - (i + 1) := by rw [List.length_drop, ← HN.out 0]
          rw [hld] at ho ⊢
          have HB5 : Hid (Below w4.heap.size w4 w5) := HBd.out.trans (hb5.mono HBd.out.size)
          have HO5 := hid ho
          refine hK _ _ ⟨⟨w5, HB5.out⟩, rfl⟩ ?_
          clear hK K hb5 HBd ho hld
          repeat (refine plan_take rfl (fun K hK => ?_); go_simp; refine ⟨_, fun _ => rfl, hK _ ?_⟩; clear hK K)
          refine plan_turn rfl (fun K hK => ?_)
          go_simp
          refine hK _ _ ⟨⟨w5, HB5.out⟩, rfl⟩ ?_
          clear hK K
          refine plan_turn rfl (fun K hK => ?_)
          go_simp
          refine hK _ _ ⟨⟨w5, HB5.out⟩, rfl⟩ ?_
          clear hK K
          refine plan_done ⟨rfl, ?_⟩
          have hcp := HCP.out
          have hw5 := hid (HW4.out.trans (HB5.out.mono HW4.out.size))
          have hi1 : ((i : Int) + 1) ≤ (n : Int) := by omega
          have hi2 : (0 : Int) ≤ (i : Int) + 1 := by omega
          have hi3 : ((i : Int) + 1) ≤ (k2 : Int) := by omega
          by_cases hkk : k2 = i + 1
          · obtain rfl : n = i + 1 := by omega
            subst hkk
            have hc1 := HO5.out.cells
            rw [Nat.sub_self] at hc1
            have HC1 := hid hc1
            have HC2 : Hid (CellsAt w5 (.slice (some ⟨sb, so, none⟩) 0 0) (l.drop (i + 1))) := CellsAt.drop_all (Nat.le_of_eq (HN.out 0).symm)
            clear hc1
            go_wp2_with fail
            refine Calls.mono (h14.out (l.drop (i + 1)) pr (some ⟨sb, so, none⟩) 0 kr 0 w5 HC1.out HC2.out (by omega)) ?_
            rintro e w6 ⟨rfl, hb6⟩
            have HB6 : Hid (Below w4.heap.size w4 w6) := HB5.out.trans (hb6.mono HB5.out.size)
            clear hb6
            go_wp2
            go_roundw
            case rel => exact ⟨i + 1, by simp, by omega, HB6⟩
            case measure => simp [intOf]; omega
          · have hkk' : i + 1 < k2 := by omega
            have HC1 := hid HO5.out.cells
            have HC2 : Hid (CellsAt w5 (.slice (some ⟨sb, so + (i + 1) * 2, none⟩) (n - (i + 1)) (k2 - (i + 1))) (l.drop (i + 1))) := by
              have h := (HO4.out.below HB5.out).cells.drop (i + 1) (k2 - (i + 1))
              rw [← HN.out 0] at h
              exact hid h
            go_wp2_with fail
            refine Calls.mono (h14.out (l.drop (i + 1)) pr (some ⟨sb, so + (i + 1) * 2, none⟩) (n - (i + 1)) kr (k2 - (i + 1)) w5 HC1.out HC2.out (by omega)) ?_
            rintro e w6 ⟨rfl, hb6⟩
            have HB6 : Hid (Below w4.heap.size w4 w6) := HB5.out.trans (hb6.mono HB5.out.size)
            clear hb6
            go_wp2
            go_roundw
            case rel => exact ⟨i + 1, by simp, by omega, HB6⟩
            case measure => simp [intOf]; omega
        · obtain rfl : i = n := by omega
          have hl' : ((i : Int) < (i : Int)) = False := by simp
          have HM1 := hid (HM4.out.below HB1.out HM4.out.lt)
          have HG1 := hid (HG4.out.below HB1.out HG4.out.lt)
          have c0 : wr.cell? ⟨B + 1, 0, none⟩ = some (.int .i64 x0) := HG1.out.cell 0
          have c1 : wr.cell? ⟨B + 1, 1, none⟩ = some (.int .i64 y0) := HG1.out.cell 1
          have c2 : wr.cell? ⟨B + 1, 2, none⟩ = some (.int .i64 x1) := HG1.out.cell 2
          have c3 : wr.cell? ⟨B + 1, 3, none⟩ = some (.int .i64 y1) := HG1.out.cell 3
          have m0 : wr.cell? ⟨B, 0, none⟩ = some (.int .i64 mW) := HM1.out.cell 0
          have m1 : wr.cell? ⟨B, 1, none⟩ = some (.int .i64 mH) := HM1.out.cell 1
          have m2 : wr.cell? ⟨B, 2, none⟩ = some S1 := HM1.out.cell 2
          have m3 : wr.cell? ⟨B, 3, none⟩ = some S2 := HM1.out.cell 3
          go_wp2_with fail
          refine Calls.mono (H12.out wr HW1.out) ?_
          rintro e w5 ⟨rfl, hb5⟩
          have HW5 := hid (HW1.out.trans (hb5.mono HW1.out.size))
          have HO5 := hid ((HO4.out.below HB1.out).below hb5)
          clear hb5 c0 c1 c2 c3 m0 m1 m2 m3
          have hSV := HST.out
          by_cases h0 : 0 < i
          · rw [if_pos h0] at hSV
            subst hSV
            obtain ⟨sb, so, rfl, d0, d1⟩ := HO5.out.cells.at (i := 0) (by rw [← HN.out 0]; exact h0)
            generalize l.getD 0 (0, 0) = z at *
            obtain ⟨z1, z2⟩ := z
            simp only at d0 d1
            have d0' : w5.cell? ⟨sb, so, none⟩ = some (.int .i64 z1) := by simpa using d0
            have d1' : w5.cell? ⟨sb, so + 1, none⟩ = some (.int .i64 z2) := by simpa using d1
            have hs : sameC z1 z2 z1 z2 = true := decide_eq_true rfl
            have h0' : (0 : Int) < (i : Int) := by omega
            obtain ⟨U, hU⟩ : ∃ U, U = w5.alloc (.cells #[Value.int .i64 z1, .int .i64 z2] 27) := ⟨_, rfl⟩
            have HUB : Hid (Below w5.heap.size w5 U) := by rw [hU]; exact (Below.refl _ _).alloc (Nat.le_refl _) _
            have HUG : Hid (Blk U w5.heap.size [.int .i64 z1, .int .i64 z2] 27) := by rw [hU]; exact Blk.new _ _ _
            have e0 : U.cell? ⟨sb, so, none⟩ = some (.int .i64 z1) := by rw [HUB.out.cell (p := ⟨sb, so, none⟩) (lt_of_cell d0')]; exact d0'
            have e1 : U.cell? ⟨sb, so + 1, none⟩ = some (.int .i64 z2) := by rw [HUB.out.cell (p := ⟨sb, so + 1, none⟩) (lt_of_cell d1')]; exact d1'
            have g0 : U.cell? ⟨w5.heap.size, 0, none⟩ = some (.int .i64 z1) := HUG.out.cell 0
            have g1 : U.cell? ⟨w5.heap.size, 1, none⟩ = some (.int .i64 z2) := HUG.out.cell 1
            have HU := hid (fun (_ : Nat) => hU)
            have HWU := hid (HW5.out.trans (HUB.out.mono HW5.out.size))
            clear hU d0 d1 d0' d1'
            go_upto_region 13 with fail
            rw [← HU.out 0]
            clear HU
            go_quiet (fail)
            go_wp2
            go_ret
            exact ⟨rfl, Below.drewN HWU.out _⟩
          · rw [if_neg h0] at hSV
            subst hSV
            obtain rfl : i = 0 := by omega
            have HWU : Hid (∀ o, Below w.heap.size w (w5.alloc o)) := fun o => HW5.out.alloc HW5.out.size _
            go_upto_region 13 with fail
            go_quiet (fail)
            go_wp2
            go_ret
            exact ⟨rfl, Below.drewN (HWU.out _) _⟩
end Go.Proofs.Ytemcbonmlmobkaa
