/- The law SightFurther: its walk. -/
import Derived.Test.YteijncfnifebjaaOwnWalk
import Derived.Test.YteijncfnifebjaaRefE
namespace Go.Proofs.Yteijncfnifebjaa
open Go.RowKit
theorem viewV_get (m : Mp) (es : List (Int × Int × Int)) (i : Nat) (hi : i < (viewV m es).length) : (viewV m es)[i] = vis m es (cellX m i) (cellY m i) := by
  unfold viewV at hi ⊢
  split
  · unfold viewL viewTo
    simp
  · rename_i hf
    simp [hf] at hi
theorem dist_sym (a b x y : Int) : dist a b x y = dist x y a b := by
  unfold dist
  rw [Bool.and_comm (meas a b)]
  split
  · unfold apt; omega
  · rfl
/-- What the law asks of each place. -/
theorem further_at (m : Mp) (X Y F G : Int) (hG : F ≤ G) (i : Nat) (h1 : i < (viewV m [(X, Y, F)]).length) (h2 : i < (viewV m [(X, Y, G)]).length) (h : (viewV m [(X, Y, F)])[i] = true) :
    (viewV m [(X, Y, G)])[i] = true ∧ dist (cellX m i) (cellY m i) X Y ≤ F ∧ sees m X Y (cellX m i) (cellY m i) = true := by
  rw [viewV_get, vis_one] at h ⊢
  unfold vis1 at h ⊢
  simp only [Bool.and_eq_true, decide_eq_true_eq] at h ⊢
  rw [dist_sym (cellX m i)]
  exact ⟨⟨by omega, h.2⟩, h.1, h.2⟩
theorem viewV_same (m : Mp) (as1 bs : List (Int × Int × Int)) : (viewV m as1).length = (viewV m bs).length := by
  unfold viewV viewL
  split
  · rw [viewTo_length, viewTo_length]
  · rfl
set_option maxRecDepth 20000 in
set_option maxHeartbeats 8000000 in
theorem further_walk (m : Mp) (v : Value) (X Y F : Int) (k : Int) (hk0 : 0 ≤ k) (hk1 : k ≤ 255) (hF64 : I64 F) (w : World) (hm : MapAt w v m) : Calls Try.prog 6 #[v, .agg #[.int .i64 X, .int .i64 Y, .int .i64 F], .int .u8 k] w fun e w' => Out w (.bool true) e w' := by
  have h8 : Hid (∀ W, Calls Try.prog 8 #[] W fun e w' => Out W (.bool true) e w') := awake_any
  have h9 : Hid (∀ W v, MapAt W v m → Calls Try.prog 9 #[v, .slice none 0 0] W fun e w' => Out W (.bool (fewM m 0)) e w') := fun W v h => few_any m v none 0 0 W h
  have HM := hid (fun W (h : Below w.heap.size w W) => hm.below h)
  have h10 : Hid (∀ W v u, MapAt W v m → RowAt encY 3 W u [(X, Y, F)] → Calls Try.prog 10 #[v, u] W fun e w' => OutB2 W (viewV m [(X, Y, F)]) (viewE m) e w') := fun W v u h h' => view_any m v _ _ W h h' (by simp)
  have h10b : Hid (∀ W v u, MapAt W v m → RowAt encY 3 W u [(X, Y, F + k)] → Calls Try.prog 10 #[v, u] W fun e w' => OutB2 W (viewV m [(X, Y, F + k)]) (viewE m) e w') := fun W v u h h' => view_any m v _ _ W h h' (by simp)
  have h21 : Hid (∀ x y W, Calls Try.prog 21 #[C x y, C X Y] W fun e w' => Out W (.int .i64 (dist x y X Y)) e w') := fun x y W => refDist_any x y X Y W
  have h22 : Hid (∀ x y W v, MapAt W v m → Calls Try.prog 22 #[v, C X Y, C x y] W fun e w' => Out W (.bool (sees m X Y x y)) e w') := fun x y W v h => refSees_any refLine_any m v X Y x y W h
  have HV := hid (further_at m X Y F (F + k) (by omega))
  have HVL := hid (viewV_length m [(X, Y, F)])
  have HVS := hid (viewV_same m [(X, Y, F)] [(X, Y, F + k)])
  have HVE : Hid (viewE m = if formed m = true then 0 else 4) := rfl
  have HAR := hid (@area_of m)
  have HCX : Hid (∀ i, cellX m i = (i : Int) % m.W) := fun _ => rfl
  have HCY : Hid (∀ i, cellY m i = (i : Int) / m.W) := fun _ => rfl
  have HNV : Hid (formed m = false → viewV m [(X, Y, F)] = [] ∧ viewE m = 4) := fun h => by unfold viewV viewE; rw [h]; exact ⟨rfl, rfl⟩
  unfold OutB2 at h10 h10b
  generalize viewV m [(X, Y, F)] = vl at *
  generalize viewV m [(X, Y, F + k)] = vm at *
  generalize viewE m = E at *
  generalize cellX m = cx at *
  generalize cellY m = cy at *
  generalize formed m = FM at *
  generalize fewM m 0 = FW at *
  obtain ⟨p, c, q, d, rfl, -, -⟩ := hm
  obtain ⟨a, b, ts, os⟩ := m
  simp only at HM HAR HCX HCY ⊢
  generalize ts.length = M at *
  generalize os.length = O at *
  unfold Out at *
  unfold C at *
  go_enter Try.func6, Try.ntmps6
  go_upto_region 1 with (fail)
  obtain ⟨W, hW⟩ : ∃ W, W = (w.alloc (.cells #[Value.int .i64 a, .int .i64 b, .slice p M c, .slice q O d] 24)).alloc (.cells #[Value.int .i64 X, .int .i64 Y, .int .i64 F] 48) := ⟨_, rfl⟩
  obtain ⟨B, hB⟩ : ∃ B, B = w.heap.size := ⟨_, rfl⟩
  rw [← hW, ← hB]
  obtain ⟨hk, hbe⟩ := map_eye_box w a b _ _ X Y F W B hW hB
  have HK := hid hk
  have HBE := hid hbe
  clear hW hB hk hbe
  go_wp2_with fail
  refine Calls.mono (h8.out W) ?_
  rintro e w1 ⟨rfl, hb1⟩
  have HB1 := hid hb1
  obtain ⟨b0, b1, b2, b3, b4, b5, b6⟩ := HK.out w1 hb1
  clear hb1
  go_wp2_with fail
  refine Calls.mono (h9.out _ _ (HM.out _ (HBE.out w1 HB1.out))) ?_
  rintro e w2 ⟨rfl, hb2⟩
  have HB2 := hid (HB1.out.trans (hb2.mono HB1.out.size))
  obtain ⟨c0, c1, c2, c3, c4, c5, c6⟩ := HK.out w2 HB2.out
  clear hb2 b0 b1 b2 b3 b4 b5 b6 HB1
  have hskip : FW = false ∨ (FW = true ∧ F > 1000000000) ∨ (FW = true ∧ F ≤ 1000000000) := by
    cases FW
    · exact Or.inl rfl
    · by_cases h : F > 1000000000
      · exact Or.inr (Or.inl ⟨rfl, h⟩)
      · exact Or.inr (Or.inr ⟨rfl, by omega⟩)
  rcases hskip with hfw | ⟨hfw, hF⟩ | ⟨hfw, hF⟩
  · subst hfw
    go_wp2_with fail
    refine Calls.mono (h8.out w2) ?_
    rintro e w3 ⟨rfl, hb3⟩
    have HB3 := hid (HB2.out.trans (hb3.mono HB2.out.size))
    clear hb3
    go_wp2
    go_ret
    exact ⟨rfl, HBE.out _ HB3.out⟩
  · subst hfw
    have hF' : 1000000000 < F := hF
    go_wp2_with fail
    refine Calls.mono (h8.out w2) ?_
    rintro e w3 ⟨rfl, hb3⟩
    have HB3 := hid (HB2.out.trans (hb3.mono HB2.out.size))
    clear hb3
    go_wp2
    go_ret
    exact ⟨rfl, HBE.out _ HB3.out⟩
  · subst hfw
    have hF' : (1000000000 < F) = False := by simp; omega
    unfold I64 at hF64
    have hwr : wrap64 (F + k) = F + k := by unfold wrap64; omega
    have HWR := hid (fun (_ : Nat) => hwr)
    clear h8 h9
    obtain ⟨U, hU⟩ : ∃ U, U = w2.alloc (.cells #[Value.int .i64 X, .int .i64 Y, .int .i64 F] 48) := ⟨_, rfl⟩
    have HUB : Hid (Below w2.heap.size w2 U) := by rw [hU]; exact (Below.refl _ _).alloc (Nat.le_refl _) _
    have HUG : Hid (RowAt encY 3 U (.slice (some ⟨w2.heap.size, 0, none⟩) 1 1) [(X, Y, F)]) := by rw [hU]; exact RowAt.one _ _ _ _ rfl
    have HBU := hid (HB2.out.trans (HUB.out.mono HB2.out.size))
    rw [hU] at HUG HBU
    clear hU HUB HB2
    go_wp2_with fail
    refine Calls.mono (h10.out _ _ _ (HM.out _ (HBE.out _ HBU.out)) HUG.out) ?_
    rintro e w5 ⟨v5, rfl, ho5, hb5⟩
    have HB5 := hid (HBU.out.trans (hb5.mono HBU.out.size))
    have hr5 := ho5.row layB
    obtain ⟨p5, k5, rfl⟩ := ho5.form
    have HR5 := hid (fun W' (h : Below w5.heap.size w5 W') => hr5.below h)
    obtain ⟨L, hL⟩ : ∃ L, L = vl.length := ⟨_, rfl⟩
    rw [← hL] at HR5 HVL HVS ⊢
    have HL := hid (fun (_ : Nat) => hL)
    clear hb5 hr5 ho5 HBU HUG c0 c1 c2 c3 c4 c5 c6 h10 hL
    obtain ⟨c0, c1, c2, c3, c4, c5, c6⟩ := HK.out w5 HB5.out
    obtain ⟨U, hU⟩ : ∃ U, U = w5.alloc (.cells #[Value.int .i64 X, .int .i64 Y, .int .i64 (F + k)] 48) := ⟨_, rfl⟩
    have HUB : Hid (Below w5.heap.size w5 U) := by rw [hU]; exact (Below.refl _ _).alloc (Nat.le_refl _) _
    have HUG : Hid (RowAt encY 3 U (.slice (some ⟨w5.heap.size, 0, none⟩) 1 1) [(X, Y, F + k)]) := by rw [hU]; exact RowAt.one _ _ _ _ rfl
    have HBU := hid (HB5.out.trans (HUB.out.mono HB5.out.size))
    have HB5U : Hid (Below w5.heap.size w5 U) := HUB
    rw [hU] at HUG HBU HB5U
    clear hU HUB
    go_wp2_with fail
    refine Calls.mono (h10b.out _ _ _ (HM.out _ (HBE.out _ HBU.out)) HUG.out) ?_
    rintro e w6 ⟨v6, rfl, ho6, hb6⟩
    have HB6 := hid (HBU.out.trans (hb6.mono HBU.out.size))
    have HB56 := hid (HB5U.out.trans (hb6.mono HB5U.out.size))
    have hr6 := ho6.row layB
    obtain ⟨p6, k6, rfl⟩ := ho6.form
    have hr5' := HR5.out _ HB56.out
    have HR5' := hid (fun W' (h : Below w6.heap.size w6 W') => hr5'.below h)
    have HR6 := hid (fun W' (h : Below w6.heap.size w6 W') => hr6.below h)
    have hvs := HVS.out
    rw [← hvs] at HR6 ⊢
    clear hb6 hr6 hr5' ho6 HBU HUG c0 c1 c2 c3 c4 c5 c6 h10b HR5 HB5U HB56 HB5
    rcases FM with _ | _
    · obtain ⟨hl0, he⟩ := HNV.out rfl
      have hL0 : L = 0 := by rw [HL.out 0, hl0]; rfl
      subst hL0 he
      go_wp2
      go_ret
      exact ⟨rfl, HBE.out _ HB6.out⟩
    · have he : E = 0 := HVE.out
      subst he
      obtain ⟨f1, f2, f3, f4, f5, f6⟩ := HAR.out rfl
      have hL4 : (L : Int) ≤ 400 := by have := HVL.out; omega
      have hz : (a = 0) = False := by simp; omega
      clear HNV HVE HVL HAR hvs HVS f5 f6
      go_wp2_with fail
      go_loopw [11] (fun iv wr => ∃ i : Nat, i ≤ L ∧ iv = .int .i64 (i : Int) ∧ Hid (Below w6.heap.size w6 wr)) (fun iv _ => L - (intOf iv).toNat)
      case atStart => exact ⟨0, by omega, rfl, hid (Below.refl _ _)⟩
      case round =>
        obtain ⟨i, hi, rfl, HB⟩ := hrel
        have HBW := hid (HB6.out.trans (HB.out.mono HB6.out.size))
        by_cases hlt : i < L
        · obtain ⟨hx, sb, so, rfl, hsb, hcell⟩ := RowAt.pos layB (HR5'.out wr HB.out) i hlt
          obtain ⟨hx', sb', so', rfl, hsb', hcell'⟩ := RowAt.pos layB (HR6.out wr HB.out) i hlt
          have d0 : wr.cell? ⟨sb, so + i, none⟩ = some (.bool vl[i]) := by have := hcell 0 _ rfl; rwa [Nat.mul_one, Nat.add_zero] at this
          have d1 : wr.cell? ⟨sb', so' + i, none⟩ = some (.bool vm[i]) := by have := hcell' 0 _ rfl; rwa [Nat.mul_one, Nat.add_zero] at this
          have hv := hid (HV.out i hx hx')
          rw [HCX.out i, HCY.out i] at hv
          have ha0 : (0 : Int) ≤ (i : Int) := by omega
          have e2 : (i : Int) < (L : Int) := by omega
          have ht1 : (i : Int).tmod a = (i : Int) % a := Int.tmod_eq_emod_of_nonneg ha0
          have ht2 : (i : Int).tdiv a = (i : Int) / a := Int.tdiv_eq_ediv_of_nonneg ha0
          have hq1 : 0 ≤ (i : Int) / a := Int.ediv_nonneg ha0 (by omega)
          have hq2 : (i : Int) / a ≤ 9223372036854775807 := by have := Int.ediv_le_self a ha0; omega
          obtain ⟨x, hx1⟩ : ∃ x, x = (i : Int) % a := ⟨_, rfl⟩
          obtain ⟨y, hy1⟩ : ∃ y, y = (i : Int) / a := ⟨_, rfl⟩
          rw [← hx1, ← hy1] at hv
          rw [← hx1] at ht1
          rw [← hy1] at ht2 hq1 hq2
          have hwy : IntKind.i64.wrap y = y := by rw [IntKind.wrap_i64]; omega
          have H21 := hid (fun W => h21.out x y W)
          have H22 := hid (fun W v h => h22.out x y W v h)
          generalize sees ⟨a, b, ts, os⟩ X Y x y = S at *
          generalize dist x y X Y = D at *
          generalize vl[i] = Z at *
          generalize vm[i] = Z' at *
          clear hcell hcell' hx1 hy1 hq1 hq2
          go_upto_region 10 with fail
          have m0 : ∀ z : Nx wr, z.w.cell? ⟨B, 0, none⟩ = some (.int .i64 a) := fun z => (HK.out z.w (HBW.out.trans (z.h.mono HBW.out.size))).1
          have HBD : Hid (Below wr.heap.size wr wr.drew) := Below.drewN (Below.refl _ _) 1
          obtain ⟨P0, hP0⟩ : ∃ P0, P0 = wr.drew := ⟨_, rfl⟩
          have HPS : Hid (P0.heap.size = wr.heap.size) := by rw [hP0]; exact hid rfl
          refine wp_region_calm (S := fun w' => ∃ x : Nx wr, w' = x.w) ((0, false) :: (1, false) :: (2, false) :: (3, false) :: (4, false) :: (5, false) :: (6, false) :: (7, false) :: (8, false) :: (9, true) :: (10, true) :: []) (by kernel_rfl) (by kernel_rfl) rfl (by kernel_rfl) ⟨⟨wr.drew, HBD.out⟩, rfl⟩ ?_
          rw [← hP0] at HBD ⊢
          clear hP0
          repeat (refine plan_take rfl (fun K hK => ?_); go_simp; refine ⟨_, fun _ => rfl, hK _ ?_⟩; clear hK K)
          refine plan_turn rfl (fun K hK => ?_)
          go_simp
          obtain ⟨U, hU⟩ : ∃ U, U = P0.alloc (.cells #[Value.int .i64 0, .int .i64 0] 27) := ⟨_, rfl⟩
          obtain ⟨g, hg⟩ : ∃ g, g = P0.heap.size := ⟨_, rfl⟩
          have HUB : Hid (Below P0.heap.size P0 U) := by rw [hU]; exact (Below.refl _ _).alloc (Nat.le_refl _) _
          have HUG : Hid (Blk U g [.int .i64 0, .int .i64 0] 27) := by rw [hU]; exact Blk.new' _ _ _ _ hg
          have HBU := hid (HBD.out.trans (HUB.out.mono HBD.out.size))
          rw [← hU, ← hg]
          have hgw : wr.heap.size ≤ g := by rw [hg]; exact HBD.out.size
          refine hK _ _ ⟨⟨U, HBU.out⟩, rfl⟩ ?_
          clear hK K hU HUB HBD hg
          have g0 : U.cell? ⟨g, 0, none⟩ = some (.int .i64 0) := HUG.out.cell 0
          have g1 : U.cell? ⟨g, 1, none⟩ = some (.int .i64 0) := HUG.out.cell 1
          have z0 := HUG.out.frozen 0
          have z1 := HUG.out.frozen 1
          refine plan_turn rfl (fun K hK => ?_)
          go_simp
          obtain ⟨V, hV⟩ : ∃ V, V = (U.setCell ⟨g, 0, none⟩ (.int .i64 x)).setCell ⟨g, 1, none⟩ (.int .i64 y) := ⟨_, rfl⟩
          have HVG : Hid (Blk V g [.int .i64 x, .int .i64 y] 27) := by rw [hV]; exact (HUG.out.set 0 _).set 1 _
          have HBV : Hid (Below wr.heap.size wr V) := by
            rw [hV]
            exact (HBU.out.trans ((turn_one U g 0 _).below hgw)).trans ((turn_one _ g 1 _).below hgw)
          rw [← hV]
          refine hK _ _ ⟨⟨V, HBV.out⟩, rfl⟩ ?_
          clear hK K hV HBU HUG g0 g1 z0 z1 m0
          refine plan_done ⟨rfl, ?_⟩
          have HSW : Hid (sb < wr.heap.size ∧ sb' < wr.heap.size) := hid ⟨hsb, hsb'⟩
          have HVX : Hid (∀ z : Nx V, Below wr.heap.size wr z.w) := fun z => HBV.out.trans (z.h.mono HBV.out.size)
          have HBWV : Hid (∀ z : Nx V, Below W.heap.size W z.w) := fun z => HBW.out.trans ((HVX.out z).mono HBW.out.size)
          have n0 : ∀ z : Nx V, z.w.cell? ⟨B, 0, none⟩ = some (.int .i64 a) := fun z => (HK.out z.w (HBWV.out z)).1
          have n1 : ∀ z : Nx V, z.w.cell? ⟨B, 1, none⟩ = some (.int .i64 b) := fun z => (HK.out z.w (HBWV.out z)).2.1
          have n2 : ∀ z : Nx V, z.w.cell? ⟨B, 2, none⟩ = some (.slice p M c) := fun z => (HK.out z.w (HBWV.out z)).2.2.1
          have n3 : ∀ z : Nx V, z.w.cell? ⟨B, 3, none⟩ = some (.slice q O d) := fun z => (HK.out z.w (HBWV.out z)).2.2.2.1
          have n4 : ∀ z : Nx V, z.w.cell? ⟨B + 1, 0, none⟩ = some (.int .i64 X) := fun z => (HK.out z.w (HBWV.out z)).2.2.2.2.1
          have n5 : ∀ z : Nx V, z.w.cell? ⟨B + 1, 1, none⟩ = some (.int .i64 Y) := fun z => (HK.out z.w (HBWV.out z)).2.2.2.2.2.1
          have n6 : ∀ z : Nx V, z.w.cell? ⟨B + 1, 2, none⟩ = some (.int .i64 F) := fun z => (HK.out z.w (HBWV.out z)).2.2.2.2.2.2
          have n7 : ∀ z : Nx V, z.w.cell? ⟨g, 0, none⟩ = some (.int .i64 x) := fun z => (HVG.out.below z.h HVG.out.lt).cell 0
          have n8 : ∀ z : Nx V, z.w.cell? ⟨g, 1, none⟩ = some (.int .i64 y) := fun z => (HVG.out.below z.h HVG.out.lt).cell 1
          have n9 : ∀ z : Nx V, z.w.cell? ⟨sb, so + i, none⟩ = some (.bool Z) := fun z => by rw [(HVX.out z).cell (p := ⟨sb, so + i, none⟩) hsb]; exact d0
          have n10 : ∀ z : Nx V, z.w.cell? ⟨sb', so' + i, none⟩ = some (.bool Z') := fun z => by rw [(HVX.out z).cell (p := ⟨sb', so' + i, none⟩) hsb']; exact d1
          have HVD : Hid (Below V.heap.size V V.drew) := Below.drewN (Below.refl _ _) 1
          clear hsb hsb' d0 d1
          have hcs : Z = false ∨ (Z = true ∧ Z' = true ∧ D ≤ F ∧ S = true) := by
            cases hZ : Z
            · exact Or.inl rfl
            · obtain ⟨h1, h2, h3⟩ := hv.out hZ
              exact Or.inr ⟨rfl, h1, h2, h3⟩
          clear hv
          go_upto_region 11 with fail
          rcases hcs with hZ | ⟨hZ, hZ', hD, hS⟩
          · subst hZ
            refine wp_region_calm (S := fun w' => ∃ x : Nx V, w' = x.w) ((0, false) :: (1, false) :: (2, false) :: (3, false) :: (4, false) :: (5, false) :: (6, false) :: (7, false) :: (8, false) :: (9, false) :: (10, false) :: (11, false) :: (12, false) :: (13, false) :: (14, false) :: (15, false) :: (16, false) :: (17, false) :: (18, false) :: (19, false) :: (21, false) :: (22, false) :: (20, true) :: (23, false) :: (24, false) :: (25, false) :: (26, false) :: (27, false) :: (28, false) :: (29, false) :: (30, false) :: (31, false) :: (32, false) :: (33, false) :: (34, false) :: (35, false) :: (36, true) :: (37, false) :: (38, false) :: (39, false) :: []) (by kernel_rfl) (by kernel_rfl) rfl (by kernel_rfl) ⟨⟨V.drew, HVD.out⟩, rfl⟩ ?_
            repeat (first
              | (refine plan_take rfl (fun K hK => ?_); go_simp; (first | (refine ⟨_, fun _ => rfl, hK _ ?_⟩) | (refine hK _ ?_)); clear hK K)
              | (refine plan_turn rfl (fun K hK => ?_); go_simp; refine hK _ _ ⟨⟨V.drew, HVD.out⟩, rfl⟩ ?_; clear hK K))
            refine plan_done ⟨rfl, ?_⟩
            clear n0 n1 n2 n3 n4 n5 n6 n7 n8 n9 n10
            have HB9 : Hid (Below w6.heap.size w6 V.drew) := HB.out.trans ((HBV.out.trans (HVD.out.mono HBV.out.size)).mono HB.out.size)
            go_wp2
            exact ⟨⟨i + 1, by omega, by simp, HB9⟩, by simp [intOf]; omega⟩
          · subst hZ hZ' hS
            have hD' : (F < D) = False := by simp; omega
            have hD2 : decide (F < D) = false := by simp; omega
            refine wp_region_calm (S := fun w' => ∃ x : Nx V, w' = x.w) ((0, false) :: (1, false) :: (2, false) :: (3, false) :: (4, false) :: (5, false) :: (6, false) :: (7, false) :: (8, false) :: (9, false) :: (10, false) :: (11, false) :: (12, false) :: (13, false) :: (14, false) :: (15, false) :: (16, false) :: (17, false) :: (18, false) :: (19, false) :: (21, false) :: (22, false) :: (20, true) :: (23, false) :: (24, false) :: (25, false) :: (26, false) :: (27, false) :: (28, false) :: (29, false) :: (30, false) :: (31, false) :: (32, false) :: (33, false) :: (34, false) :: (35, false) :: (36, true) :: (37, false) :: (38, false) :: (39, false) :: []) (by kernel_rfl) (by kernel_rfl) rfl (by kernel_rfl) ⟨⟨V.drew, HVD.out⟩, rfl⟩ ?_
            repeat (refine plan_take rfl (fun K hK => ?_); go_simp; (first | (refine ⟨_, fun _ => rfl, hK _ ?_⟩) | (refine hK _ ?_)); clear hK K)
            refine plan_turn rfl (fun K hK => ?_)
            go_simp
            refine Calls.mono (H21.out _) ?_
            rintro _ w8 ⟨rfl, hb8⟩
            have HB8 := hid (HVD.out.trans (hb8.mono HVD.out.size))
            refine hK _ _ ⟨⟨w8, HB8.out⟩, rfl⟩ ?_
            clear hK K hb8 HVD
            repeat (refine plan_take rfl (fun K hK => ?_); go_simp; (first | (refine ⟨_, fun _ => rfl, hK _ ?_⟩) | (refine hK _ ?_)); clear hK K)
            refine plan_turn rfl (fun K hK => ?_)
            go_simp
            refine Calls.mono (H22.out _ _ (HM.out _ (HBE.out _ (HBWV.out ⟨w8, HB8.out⟩)))) ?_
            rintro _ w9 ⟨rfl, hb9⟩
            have HB9 := hid (HB8.out.trans (hb9.mono HB8.out.size))
            refine hK _ _ ⟨⟨w9, HB9.out⟩, rfl⟩ ?_
            clear hK K hb9 HB8
            repeat (refine plan_take rfl (fun K hK => ?_); go_simp; (first | (refine ⟨_, fun _ => rfl, hK _ ?_⟩) | (refine hK _ ?_)); clear hK K)
            refine plan_done ⟨rfl, ?_⟩
            clear n0 n1 n2 n3 n4 n5 n6 n7 n8 n9 n10
            have HB10 : Hid (Below w6.heap.size w6 w9) := HB.out.trans ((HBV.out.trans (HB9.out.mono HBV.out.size)).mono HB.out.size)
            go_wp2
            exact ⟨⟨i + 1, by omega, by simp, HB10⟩, by simp [intOf]; omega⟩
        · obtain rfl : i = L := by omega
          have e2 : ((i : Int) < (i : Int)) = False := by simp
          go_wp2
          go_ret
          exact ⟨rfl, HBE.out _ HBW.out⟩
end Go.Proofs.Yteijncfnifebjaa
