/- The reference: whether the way is clear, given what its Line answers. -/
import Derived.Test.YteijncfnifebjaaRefI
import Derived.Test.YteijncfnifebjaaRefS
namespace Go.Proofs.Yteijncfnifebjaa
open Go.RowKit
/-- What the reference's Line answers. -/
def Line27 : Prop := ∀ (ax ay bx by_ : Int) (w : World), Calls Try.prog 45 #[C ax ay, C bx by_] w fun e w' => OutLine w (lineM ax ay bx by_) e w'
set_option maxHeartbeats 4000000 in
theorem refClear_low (h27 : Line27) (m : Mp) (v : Value) (ax ay bx by_ : Int) (w : World) (hm : MapAt w v m) (hfm : formed m = true) (hless : less bx by_ ax ay = false) : Calls Try.prog 34 #[v, C ax ay, C bx by_] w fun e w' => Out w (.bool (sees m ax ay bx by_)) e w' := by
  have h56 : Hid (∀ W, Calls Try.prog 44 #[C bx by_, C ax ay] W fun e w' => Out W (.bool false) e w') := fun W => by have := refLess_any bx by_ ax ay W; rwa [hless] at this
  clear hless
  have h17 : Hid (∀ s t W, Calls Try.prog 35 #[.agg #[.int .i64 m.W, .int .i64 m.H, s, t], C ax ay] W fun e w' => Out W (.bool (formed m && holds m ax ay)) e w') := fun s t W => by rw [hfm, Bool.true_and]; exact refHolds_any m s t ax ay W
  have h39 : Hid (∀ s t W, Calls Try.prog 35 #[.agg #[.int .i64 m.W, .int .i64 m.H, s, t], C bx by_] W fun e w' => Out W (.bool (holds m bx by_)) e w') := fun s t W => refHolds_any m s t bx by_ W
  have HM := hid (fun W (h : Below w.heap.size w W) => hm.below h)
  have HS : Hid (sees m ax ay bx by_ = (formed m && holds m ax ay && holds m bx by_ && clearTo m (cellAt ax ay bx by_) ((far ax ay bx by_).toNat - 1))) := rfl
  have HL : Hid ((formed m && holds m ax ay) = true → holds m bx by_ = true → (∀ W, Calls Try.prog 45 #[C ax ay, C bx by_] W fun e w' => OutLine W (lineOf ax ay bx by_) e w') ∧ (∀ (k : Nat) (W : World) v, 1 ≤ k → (k : Int) < far ax ay bx by_ → MapAt W v m → Calls Try.prog 46 #[v, C (cellAt ax ay bx by_ k).1 (cellAt ax ay bx by_ k).2] W fun e w' => Out W (.int .i64 (tileAt m (cellAt ax ay bx by_ k).1 (cellAt ax ay bx by_ k).2)) e w') ∧ 0 ≤ far ax ay bx by_ ∧ far ax ay bx by_ ≤ 2000) := fun h1 h2 => by
    rw [Bool.and_eq_true] at h1
    have m1 := meas_inside h1.1 h1.2
    have m2 := meas_inside h1.1 h2
    refine ⟨fun W => ?_, fun k W v hk1 hk2 hm => tileOf_any m v _ _ W hm h1.1 (line_inside h1.2 h2 k (by omega) (by omega)), ?_, ?_⟩
    · have := h27 ax ay bx by_ W
      rwa [lineM, m1, m2, Bool.true_and, if_pos rfl] at this
    · have := meas_of m1; have := meas_of m2; unfold far apt; omega
    · have := meas_of m1; have := meas_of m2; unfold far apt; omega
  obtain ⟨p, c, q, d, rfl, -, -⟩ := hm
  unfold Out
  generalize sees m ax ay bx by_ = R at *
  generalize (formed m && holds m ax ay) = F at *
  generalize holds m bx by_ = G at *
  have HCT : Hid (∀ k, clearTo m (cellAt ax ay bx by_) (k + 1) = (clearTo m (cellAt ax ay bx by_) k && !rock m (cellAt ax ay bx by_ (k + 1)).1 (cellAt ax ay bx by_ (k + 1)).2)) := fun k => rfl
  have HCF : Hid (∀ k n : Nat, k + 1 ≤ n → rock m (cellAt ax ay bx by_ (k + 1)).1 (cellAt ax ay bx by_ (k + 1)).2 = true → clearTo m (cellAt ax ay bx by_) n = false) := fun k n h1 h2 => by
    rw [Bool.eq_false_iff]
    intro h3
    rw [clearTo_iff] at h3
    rw [h3 (k + 1) (by omega) h1] at h2
    cases h2
  obtain ⟨a, b, ts, os⟩ := m
  simp only at HM h17 h39 ⊢
  generalize ts.length = M at *
  generalize os.length = N at *
  unfold C at *
  rcases F with _ | _
  · have hR : R = false := by rw [HS.out]; simp
    subst hR
    go_enter Try.func34, Try.ntmps34
    go_upto_region 1 with (fail)
    obtain ⟨W, hW⟩ : ∃ W, W = ((w.alloc (.cells #[Value.int .i64 a, .int .i64 b, .slice p M c, .slice q N d] 24)).alloc (.cells #[Value.int .i64 ax, .int .i64 ay] 27)).alloc (.cells #[Value.int .i64 bx, .int .i64 by_] 27) := ⟨_, rfl⟩
    obtain ⟨B, hB⟩ : ∃ B, B = w.heap.size := ⟨_, rfl⟩
    rw [← hW, ← hB]
    obtain ⟨hk, hbe⟩ := map_cells_box w a b _ _ ax ay bx by_ W B hW hB
    obtain ⟨a0, a1, a2, a3, a4, a5, a6, a7⟩ := hk W (Below.refl _ _)
    have HBE := hid hbe
    clear hW hB hk hbe
    go_wp2_with fail
    refine Calls.mono (h17.out _ _ _) ?_
    rintro e w1 ⟨rfl, hb1⟩
    have HB1 := hid hb1
    clear hb1
    go_wp2
    go_ret
    exact ⟨rfl, HBE.out _ HB1.out⟩
  · rcases G with _ | _
    · have hR : R = false := by rw [HS.out]; simp
      subst hR
      go_enter Try.func34, Try.ntmps34
      go_upto_region 1 with (fail)
      obtain ⟨W, hW⟩ : ∃ W, W = ((w.alloc (.cells #[Value.int .i64 a, .int .i64 b, .slice p M c, .slice q N d] 24)).alloc (.cells #[Value.int .i64 ax, .int .i64 ay] 27)).alloc (.cells #[Value.int .i64 bx, .int .i64 by_] 27) := ⟨_, rfl⟩
      obtain ⟨B, hB⟩ : ∃ B, B = w.heap.size := ⟨_, rfl⟩
      rw [← hW, ← hB]
      obtain ⟨hk, hbe⟩ := map_cells_box w a b _ _ ax ay bx by_ W B hW hB
      obtain ⟨a0, a1, a2, a3, a4, a5, a6, a7⟩ := hk W (Below.refl _ _)
      have HK := hid hk
      have HBE := hid hbe
      clear hW hB hk hbe
      go_wp2_with fail
      refine Calls.mono (h17.out _ _ _) ?_
      rintro e w1 ⟨rfl, hb1⟩
      have HB1 := hid hb1
      obtain ⟨b0, b1, b2, b3, b4, b5, b6, b7⟩ := HK.out w1 hb1
      clear hb1
      go_wp2_with fail
      refine Calls.mono (h39.out _ _ _) ?_
      rintro e w2 ⟨rfl, hb2⟩
      have HB2 := hid (HB1.out.trans (hb2.mono HB1.out.size))
      clear hb2
      go_wp2
      go_ret
      exact ⟨rfl, HBE.out _ HB2.out⟩
    · obtain ⟨h26, h41, hf0, hf1⟩ := HL.out (by first | rfl | trivial) (by first | rfl | trivial)
      obtain ⟨n, hn⟩ : ∃ n : Nat, far ax ay bx by_ = (n : Int) := ⟨(far ax ay bx by_).toNat, by omega⟩
      have H26 := hid h26
      have H41 := hid h41
      unfold lineOf OutLine at H26
      rw [hn, Int.toNat_natCast] at H26 HS
      rw [hn] at H41 hf1
      have hn2 : n ≤ 2000 := by omega
      clear h26 h41 hf0 hf1 HL hn
      generalize cellAt ax ay bx by_ = f at *
      go_enter Try.func34, Try.ntmps34
      go_upto_region 1 with (fail)
      obtain ⟨W, hW⟩ : ∃ W, W = ((w.alloc (.cells #[Value.int .i64 a, .int .i64 b, .slice p M c, .slice q N d] 24)).alloc (.cells #[Value.int .i64 ax, .int .i64 ay] 27)).alloc (.cells #[Value.int .i64 bx, .int .i64 by_] 27) := ⟨_, rfl⟩
      obtain ⟨B, hB⟩ : ∃ B, B = w.heap.size := ⟨_, rfl⟩
      rw [← hW, ← hB]
      obtain ⟨hk, hbe⟩ := map_cells_box w a b _ _ ax ay bx by_ W B hW hB
      obtain ⟨a0, a1, a2, a3, a4, a5, a6, a7⟩ := hk W (Below.refl _ _)
      have HK := hid hk
      have HBE := hid hbe
      clear hW hB hk hbe
      go_wp2_with fail
      refine Calls.mono (h17.out _ _ _) ?_
      rintro e w1 ⟨rfl, hb1⟩
      have HB1 := hid hb1
      obtain ⟨b0, b1, b2, b3, b4, b5, b6, b7⟩ := HK.out w1 hb1
      clear hb1 a0 a1 a2 a3 a4 a5 a6 a7
      go_wp2_with fail
      refine Calls.mono (h39.out _ _ _) ?_
      rintro e w2 ⟨rfl, hb2⟩
      have HB2 := hid (HB1.out.trans (hb2.mono HB1.out.size))
      obtain ⟨c0, c1, c2, c3, c4, c5, c6, c7⟩ := HK.out w2 HB2.out
      clear hb2 b0 b1 b2 b3 b4 b5 b6 b7
      go_wp2_with fail
      refine Calls.mono (h56.out _) ?_
      rintro e w9 ⟨rfl, hb9⟩
      have HB9 := hid (HB2.out.trans (hb9.mono HB2.out.size))
      clear HB2 hb9 c0 c1 c2 c3 c4 c5 c6 c7
      have HB2 := HB9
      obtain ⟨c0, c1, c2, c3, c4, c5, c6, c7⟩ := HK.out w9 HB2.out
      go_wp2_with fail
      refine Calls.mono (H26.out _) ?_
      rintro e w3 ⟨v, rfl, hv, hb3⟩
      obtain ⟨pl, cl, rfl, hcells⟩ := hv
      rw [List.length_map, List.length_range] at hcells ⊢
      obtain ⟨sb, so, rfl, hcs⟩ := hcells (by simp)
      have HB3 := hid (HB2.out.trans (hb3.mono HB2.out.size))
      have HCS : Hid (∀ W' (i : Nat), Below w3.heap.size w3 W' → i ≤ n → W'.cell? ⟨sb, so + i * 2, none⟩ = some (.int .i64 (f i).1) ∧ W'.cell? ⟨sb, so + i * 2 + 1, none⟩ = some (.int .i64 (f i).2)) := fun W' i h hi => by
        have h1 := hcs i (by omega)
        have e : ((List.range (n + 1)).map f).getD i (0, 0) = f i := by simp [show i < n + 1 by omega]
        rw [e] at h1
        rw [h.cell (p := ⟨sb, so + i * 2, none⟩) (lt_of_cell h1.1), h.cell (p := ⟨sb, so + i * 2 + 1, none⟩) (lt_of_cell h1.2)]
        exact h1
      clear hb3 hcs hcells c0 c1 c2 c3 c4 c5 c6 c7 HB1 HB2 HB9
      go_wp2_with fail
      go_loopw [8] (fun iv wr => ∃ j : Nat, (j + 1 ≤ n ∨ j = 0) ∧ iv = .int .i64 ((j : Int) + 1) ∧ Hid (Below w3.heap.size w3 wr) ∧ Hid (clearTo ⟨a, b, ts, os⟩ f j = true)) (fun iv _ => n + 1 - (intOf iv).toNat)
      case atStart => exact ⟨0, Or.inr rfl, rfl, hid (Below.refl _ _), rfl⟩
      case round =>
        obtain ⟨j, hj, rfl, HBV, HCL⟩ := hrel
        by_cases hl : j + 1 < n
        · have hl' : (j : Int) + 1 < (n : Int) := by omega
          have hl0 : (0 : Int) ≤ (j : Int) + 1 := by omega
          have hl1 : (j : Int) + 1 < (n : Int) + 1 := by omega
          have H41b := hid (fun W v h => H41.out (j + 1) W v (by omega) (by omega) h)
          have HCT2 := hid (HCT.out j)
          have HCF2 : Hid (rock ⟨a, b, ts, os⟩ (f (j + 1)).1 (f (j + 1)).2 = true → R = false) := fun h => by rw [HS.out, HCF.out j (n - 1) (by omega) h]; simp
          have HWR := hid (HB3.out.trans (HBV.out.mono HB3.out.size))
          have d0 : ∀ x : Nx wr, x.w.cell? ⟨B, 0, none⟩ = some (.int .i64 a) := fun x => (HK.out x.w (HWR.out.trans (x.h.mono HWR.out.size))).1
          have d1 : ∀ x : Nx wr, x.w.cell? ⟨B, 1, none⟩ = some (.int .i64 b) := fun x => (HK.out x.w (HWR.out.trans (x.h.mono HWR.out.size))).2.1
          have d2 : ∀ x : Nx wr, x.w.cell? ⟨B, 2, none⟩ = some (.slice p M c) := fun x => (HK.out x.w (HWR.out.trans (x.h.mono HWR.out.size))).2.2.1
          have d3 : ∀ x : Nx wr, x.w.cell? ⟨B, 3, none⟩ = some (.slice q N d) := fun x => (HK.out x.w (HWR.out.trans (x.h.mono HWR.out.size))).2.2.2.1
          have d4 : ∀ x : Nx wr, x.w.cell? ⟨sb, so + (j + 1) * 2, none⟩ = some (.int .i64 (f (j + 1)).1) := fun x => (HCS.out x.w (j + 1) (HBV.out.trans (x.h.mono HBV.out.size)) (by omega)).1
          have d5 : ∀ x : Nx wr, x.w.cell? ⟨sb, so + (j + 1) * 2 + 1, none⟩ = some (.int .i64 (f (j + 1)).2) := fun x => (HCS.out x.w (j + 1) (HBV.out.trans (x.h.mono HBV.out.size)) (by omega)).2
          have HMX : Hid (∀ x : Nx wr, MapAt x.w (.agg #[.int .i64 a, .int .i64 b, .slice p M c, .slice q N d]) ⟨a, b, ts, os⟩) := fun x => HM.out _ (HBE.out _ (HWR.out.trans (x.h.mono HWR.out.size)))
          generalize (f (j + 1)).1 = X at *
          generalize (f (j + 1)).2 = Y at *
          have HRK : rock ⟨a, b, ts, os⟩ X Y = (tileAt ⟨a, b, ts, os⟩ X Y == 1) := rfl
          rw [HRK] at HCT2 HCF2
          clear HRK
          generalize tileAt ⟨a, b, ts, os⟩ X Y = T at *
          have hne := Nx.some wr
          go_upto_region 9 with fail
          refine wp_region_nx (by kernel_rfl) (by kernel_rfl) ?_
          repeat (first
            | go_big_quiet_skip
            | (go_big_quiet_want; go_big_quiet_op; first
              | go_big_quiet_on
              | (apply Exists.intro
                 refine ⟨fun x => ?_, ?_⟩
                 · (go_at_call 46; with_reducible exact nx_call x (H41b.out _ _ (HMX.out x)))
                 go_big_quiet_on)))
          refine wpQuiet_nil ?_
          rintro _ ⟨x, rfl⟩
          have HBV2 := hid (HBV.out.trans (x.h.mono HBV.out.size))
          rcases hK : (T == 1) with _ | _
          · go_wp2
            go_roundw
            case rel => exact ⟨j + 1, by omega, by simp, HBV2, hid (by have := HCT2.out; rw [HCL.out, hK] at this; simpa using this)⟩
            case measure => simp [intOf]; omega
          · have hR := HCF2.out hK
            subst hR
            go_wp2
            go_ret
            exact ⟨rfl, HBE.out _ (HB3.out.trans (HBV2.out.mono HB3.out.size))⟩
        · have hl' : ((j : Int) + 1 < (n : Int)) = False := by simp; omega
          have hjn : j = n - 1 := by omega
          have hR : R = true := by rw [HS.out, ← hjn, HCL.out]; rfl
          subst hR
          go_wp2
          go_ret
          exact ⟨rfl, HBE.out _ (HB3.out.trans (HBV.out.mono HB3.out.size))⟩
end Go.Proofs.Yteijncfnifebjaa
