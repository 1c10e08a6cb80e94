/- The law SightOwn: its walk. -/
import Derived.Test.YteijncfnifebjaaViewsWalk
namespace Go.Proofs.Yteijncfnifebjaa
open Go.RowKit
theorem map_eye_box (w : World) (a b : Int) (s t : Value) (x y z : Int) (W : World) (B : Nat) (hW : W = (w.alloc (.cells #[Value.int .i64 a, .int .i64 b, s, t] 24)).alloc (.cells #[Value.int .i64 x, .int .i64 y, .int .i64 z] 48)) (hB : B = w.heap.size) :
    (∀ w', Below W.heap.size W w' → w'.cell? ⟨B, 0, none⟩ = some (.int .i64 a) ∧ w'.cell? ⟨B, 1, none⟩ = some (.int .i64 b) ∧ w'.cell? ⟨B, 2, none⟩ = some s ∧ w'.cell? ⟨B, 3, none⟩ = some t ∧ w'.cell? ⟨B + 1, 0, none⟩ = some (.int .i64 x) ∧ w'.cell? ⟨B + 1, 1, none⟩ = some (.int .i64 y) ∧ w'.cell? ⟨B + 1, 2, none⟩ = some (.int .i64 z)) ∧ (∀ w', Below W.heap.size W w' → Below w.heap.size w w') := by
  have hsz : W.heap.size = B + 2 := by rw [hW, hB]; simp
  have hbe : Below w.heap.size w W := by rw [hW]; exact ((Below.refl _ _).alloc (Nat.le_refl _) _).alloc (by simp) _
  have b1 : Blk W B [Value.int .i64 a, .int .i64 b, s, t] 24 := by rw [hW, hB]; exact (Blk.new _ _ _).alloc _
  have b2 : Blk W (B + 1) [Value.int .i64 x, .int .i64 y, .int .i64 z] 48 := by rw [hW]; exact Blk.new' _ _ _ _ (by simp [hB])
  refine ⟨fun w' h => ?_, fun w' h => hbe.trans (h.mono (by omega))⟩
  have c1 := b1.below h (by omega)
  have c2 := b2.below h (by omega)
  exact ⟨c1.cell 0, c1.cell 1, c1.cell 2, c1.cell 3, c2.cell 0, c2.cell 1, c2.cell 2⟩
theorem sees_self {m : Mp} {x y : Int} (hf : formed m = true) (hh : holds m x y = true) : sees m x y x y = true := by
  have e : far x y x y = 0 := by unfold far apt; omega
  rw [sees, hf, hh, e]
  rfl
theorem dist_nonneg (a b x y : Int) : 0 ≤ dist a b x y := by
  unfold dist
  split
  · unfold apt; omega
  · omega
theorem vis_one (m : Mp) (e : Int × Int × Int) (x y : Int) : vis m [e] x y = vis1 m x y e := by simp [vis]
theorem vis_own (m : Mp) (X Y F : Int) : vis m [(X, Y, F)] X Y = ((formed m && holds m X Y) && decide (0 ≤ F)) := by
  rw [vis_one]
  unfold vis1
  simp only
  cases h : (formed m && holds m X Y)
  · rw [sees_from h, Bool.and_false, Bool.false_and]
  · rw [Bool.and_eq_true] at h
    have hm := meas_inside h.1 h.2
    rw [sees_self h.1 h.2, Bool.and_true, Bool.true_and]
    unfold dist
    rw [hm]
    simp only [Bool.and_self, if_true]
    have : apt X X + apt Y Y = 0 := by unfold apt; omega
    rw [this]
theorem view_own (m : Mp) (X Y F : Int) (i : Nat) (hi : i < (viewV m [(X, Y, F)]).length) (h : (viewV m [(X, Y, F)])[i] = true) : (formed m && holds m X Y) = true ∧ 0 ≤ F := by
  have hv : (viewV m [(X, Y, F)])[i] = vis m [(X, Y, F)] (cellX m i) (cellY m i) := by
    unfold viewV at hi ⊢
    split
    · unfold viewL viewTo
      simp
    · rename_i hf
      simp [hf] at hi
  rw [hv, vis_one] at h
  unfold vis1 at h
  simp only [Bool.and_eq_true, decide_eq_true_eq] at h
  have hd := dist_nonneg X Y (cellX m i) (cellY m i)
  refine ⟨?_, by omega⟩
  cases hh : (formed m && holds m X Y)
  · rw [sees_from hh] at h; cases h.2
  · rfl
theorem viewV_length (m : Mp) (es : List (Int × Int × Int)) : (viewV m es).length ≤ 400 := by
  unfold viewV
  cases hf : formed m
  · simp
  · have := area_of hf
    show (viewL m es).length ≤ _
    unfold viewL
    rw [viewTo_length]; omega
set_option maxRecDepth 20000 in
set_option maxHeartbeats 8000000 in
theorem own_walk (m : Mp) (v : Value) (X Y F : Int) (w : World) (hm : MapAt w v m) : Calls Try.prog 7 #[v, .agg #[.int .i64 X, .int .i64 Y, .int .i64 F]] w fun e w' => Out w (.bool true) e w' := by
  have h8 : Hid (∀ W, Calls Try.prog 8 #[] W fun e w' => Out W (.bool true) e w') := awake_any
  have h9 : Hid (∀ W v, MapAt W v m → Calls Try.prog 9 #[v, .slice none 0 0] W fun e w' => Out W (.bool (fewM m 0)) e w') := fun W v h => few_any m v none 0 0 W h
  have HM := hid (fun W (h : Below w.heap.size w W) => hm.below h)
  have h10 : Hid (∀ W v u, MapAt W v m → RowAt encY 3 W u [(X, Y, F)] → Calls Try.prog 10 #[v, u] W fun e w' => OutB2 W (viewV m [(X, Y, F)]) (viewE m) e w') := fun W v u h h' => view_any m v _ _ W h h' (by simp)
  have h14 : Hid (∀ W v u, MapAt W v m → RowAt encY 3 W u [(X, Y, F)] → Calls Try.prog 14 #[v, C X Y, u] W fun e w' => Out W (.bool ((formed m && holds m X Y) && decide (0 ≤ F))) e w') := fun W v u h h' => by rw [← vis_own]; exact visible_any m v _ X Y _ W h h' (by simp)
  have h23 : Hid (∀ W v, MapAt W v m → Calls Try.prog 23 #[v, C X Y] W fun e w' => Out W (.bool (formed m && holds m X Y)) e w') := fun W v h => refInside_any m v X Y W h
  have h24 : Hid (∀ W v, MapAt W v m → Calls Try.prog 24 #[v] W fun e w' => Out W (.bool (formed m)) e w') := fun W v h => refFormed_any m v W h
  have HV := hid (view_own m X Y F)
  have HVL := hid (viewV_length m [(X, Y, F)])
  have HVE : Hid (viewE m = if formed m = true then 0 else 4) := rfl
  unfold OutB2 at h10
  generalize viewV m [(X, Y, F)] = vl at *
  generalize viewE m = E at *
  generalize (formed m && holds m X Y) = IN at *
  generalize formed m = FM at *
  generalize fewM m 0 = FW at *
  obtain ⟨p, c, q, d, rfl, -, -⟩ := hm
  obtain ⟨a, b, ts, os⟩ := m
  simp only at HM ⊢
  generalize ts.length = M at *
  generalize os.length = O at *
  unfold Out at *
  unfold C at *
  go_enter Try.func7, Try.ntmps7
  go_upto_region 1 with (fail)
  obtain ⟨W, hW⟩ : ∃ W, W = (w.alloc (.cells #[Value.int .i64 a, .int .i64 b, .slice p M c, .slice q O d] 24)).alloc (.cells #[Value.int .i64 X, .int .i64 Y, .int .i64 F] 48) := ⟨_, rfl⟩
  obtain ⟨B, hB⟩ : ∃ B, B = w.heap.size := ⟨_, rfl⟩
  rw [← hW, ← hB]
  obtain ⟨hk, hbe⟩ := map_eye_box w a b _ _ X Y F W B hW hB
  have HK := hid hk
  have HBE := hid hbe
  clear hW hB hk hbe
  go_wp2_with fail
  refine Calls.mono (h8.out W) ?_
  rintro e w1 ⟨rfl, hb1⟩
  have HB1 := hid hb1
  obtain ⟨b0, b1, b2, b3, b4, b5, b6⟩ := HK.out w1 hb1
  clear hb1
  go_wp2_with fail
  refine Calls.mono (h9.out _ _ (HM.out _ (HBE.out w1 HB1.out))) ?_
  rintro e w2 ⟨rfl, hb2⟩
  have HB2 := hid (HB1.out.trans (hb2.mono HB1.out.size))
  obtain ⟨c0, c1, c2, c3, c4, c5, c6⟩ := HK.out w2 HB2.out
  clear hb2 b0 b1 b2 b3 b4 b5 b6 HB1
  rcases FW with _ | _
  · go_wp2_with fail
    refine Calls.mono (h8.out w2) ?_
    rintro e w3 ⟨rfl, hb3⟩
    have HB3 := hid (HB2.out.trans (hb3.mono HB2.out.size))
    clear hb3
    go_wp2
    go_ret
    exact ⟨rfl, HBE.out _ HB3.out⟩
  · clear h8 h9
    go_wp2_with fail
    refine Calls.mono (h23.out _ _ (HM.out _ (HBE.out _ HB2.out))) ?_
    rintro e w3 ⟨rfl, hb3⟩
    have HB3 := hid (HB2.out.trans (hb3.mono HB2.out.size))
    clear hb3 c0 c1 c2 c3 c4 c5 c6 HB2 h23
    obtain ⟨c0, c1, c2, c3, c4, c5, c6⟩ := HK.out w3 HB3.out
    obtain ⟨U, hU⟩ : ∃ U, U = w3.alloc (.cells #[Value.int .i64 X, .int .i64 Y, .int .i64 F] 48) := ⟨_, rfl⟩
    have HUB : Hid (Below w3.heap.size w3 U) := by rw [hU]; exact (Below.refl _ _).alloc (Nat.le_refl _) _
    have HUG : Hid (RowAt encY 3 U (.slice (some ⟨w3.heap.size, 0, none⟩) 1 1) [(X, Y, F)]) := by rw [hU]; exact RowAt.one _ _ _ _ rfl
    have HBU := hid (HB3.out.trans (HUB.out.mono HB3.out.size))
    rw [hU] at HUG HBU
    clear hU HUB HB3
    go_wp2_with fail
    refine Calls.mono (h14.out _ _ _ (HM.out _ (HBE.out _ HBU.out)) HUG.out) ?_
    rintro e w4 ⟨rfl, hb4⟩
    have HB4 := hid (HBU.out.trans (hb4.mono HBU.out.size))
    clear hb4 c0 c1 c2 c3 c4 c5 c6 HBU HUG h14
    obtain ⟨c0, c1, c2, c3, c4, c5, c6⟩ := HK.out w4 HB4.out
    have HVF : Hid ((IN && decide (0 ≤ F)) = false → ∀ (i : Nat) (hi : i < vl.length), vl[i] = false) := fun h i hi => by
      cases hv : vl[i]
      · rfl
      · obtain ⟨h1, h2⟩ := HV.out i hi hv
        rw [h1, Bool.true_and, decide_eq_false_iff_not] at h
        exact absurd h2 h
    clear HV
    have hcase : (IN = true ∧ 0 ≤ F) ∨ (IN = true ∧ ¬ 0 ≤ F) ∨ IN = false := by
      cases IN
      · exact Or.inr (Or.inr rfl)
      · by_cases h : 0 ≤ F
        · exact Or.inl ⟨rfl, h⟩
        · exact Or.inr (Or.inl ⟨rfl, h⟩)
    obtain ⟨L, hL⟩ : ∃ L, L = vl.length := ⟨_, rfl⟩
    have HL := hid (fun (_ : Nat) => hL)
    have hL4 : (L : Int) ≤ 400 := by have := HVL.out; omega
    clear hL HVL
    rcases hcase with ⟨hin, hF⟩ | ⟨hin, hF⟩ | hin
    case' inl =>
      subst hin
      have hF2 : (F < 0) = False := by simp; omega
      have HLV : Hid (true = true) := rfl
    case' inr.inl =>
      subst hin
      have hF1 : (0 ≤ F) = False := by simp; omega
      have hF2 : F < 0 := by omega
      have HLV := hid (HVF.out (by simp; omega))
    case' inr.inr =>
      subst hin
      have HLV := hid (HVF.out rfl)
    all_goals
      clear HVF
      obtain ⟨U, hU⟩ : ∃ U, U = w4.alloc (.cells #[Value.int .i64 X, .int .i64 Y, .int .i64 F] 48) := ⟨_, rfl⟩
      have HUB : Hid (Below w4.heap.size w4 U) := by rw [hU]; exact (Below.refl _ _).alloc (Nat.le_refl _) _
      have HUG : Hid (RowAt encY 3 U (.slice (some ⟨w4.heap.size, 0, none⟩) 1 1) [(X, Y, F)]) := by rw [hU]; exact RowAt.one _ _ _ _ rfl
      have HBU := hid (HB4.out.trans (HUB.out.mono HB4.out.size))
      rw [hU] at HUG HBU
      clear hU HUB HB4
      go_wp2_with fail
      refine Calls.mono (h10.out _ _ _ (HM.out _ (HBE.out _ HBU.out)) HUG.out) ?_
      rintro e w5 ⟨v5, rfl, ho5, hb5⟩
      have HB5 := hid (HBU.out.trans (hb5.mono HBU.out.size))
      have hr5 := ho5.row layB
      obtain ⟨p5, k5, rfl⟩ := ho5.form
      have HR5 := hid (fun W' (h : Below w5.heap.size w5 W') => hr5.below h)
      rw [← HL.out 0] at HR5 ⊢
      clear hb5 hr5 ho5 HBU HUG c0 c1 c2 c3 c4 c5 c6 h10
      go_wp2_with fail
      go_loopw [8] (fun iv wr => ∃ i : Nat, i ≤ L ∧ iv = .int .i64 (i : Int) ∧ Hid (Below w5.heap.size w5 wr)) (fun iv _ => L - (intOf iv).toNat)
      case atStart => exact ⟨0, by omega, rfl, hid (Below.refl _ _)⟩
      case round =>
        obtain ⟨i, hi, rfl, HB⟩ := hrel
        have HBW := hid (HB5.out.trans (HB.out.mono HB5.out.size))
        obtain ⟨c0, c1, c2, c3, c4, c5, c6⟩ := HK.out wr HBW.out
        by_cases hlt : i < L
        · obtain ⟨hx, sb, so, rfl, hsb, hcell⟩ := RowAt.pos layB (HR5.out wr HB.out) i hlt
          have d0 : wr.cell? ⟨sb, so + i, none⟩ = some (.bool vl[i]) := by have := hcell 0 _ rfl; rwa [Nat.mul_one, Nat.add_zero] at this
          have e2 : (i : Int) < (L : Int) := by omega
          have e3 : (0 : Int) ≤ (i : Int) := by omega
          have HLVi : Hid (vl[i] = true ∨ vl[i] = false) := by cases vl[i] <;> simp [Hid]
          first
            | rw [HLV.out i hx] at d0
              clear HLVi
            | skip
          clear hcell hsb
          generalize vl[i] = Z at *
          first
            | (rcases Z with _ | _
               all_goals
                 go_wp2
                 exact ⟨⟨i + 1, by omega, by simp, HB⟩, by simp [intOf]; omega⟩)
            | (go_wp2
               exact ⟨⟨i + 1, by omega, by simp, HB⟩, by simp [intOf]; omega⟩)
        · obtain rfl : i = L := by omega
          go_wp2_with fail
          refine Calls.mono (h24.out _ _ (HM.out _ (HBE.out _ HBW.out))) ?_
          rintro e w6 ⟨rfl, hb6⟩
          have HB6 := hid (HBW.out.trans (hb6.mono HBW.out.size))
          clear hb6
          have hve := HVE.out
          clear HVE
          rcases FM with _ | _
          · replace hve : E = 4 := hve
            subst hve
            go_wp2
            go_ret
            exact ⟨rfl, HBE.out _ HB6.out⟩
          · replace hve : E = 0 := hve
            subst hve
            go_wp2
            go_ret
            exact ⟨rfl, HBE.out _ HB6.out⟩
end Go.Proofs.Yteijncfnifebjaa
