/- View 10. -/
import Derived.Test.YteijncfnifebjaaKeen
import Derived.Test.YteijncfnifebjaaRefView
namespace Go.Proofs.Yteijncfnifebjaa
open Go.RowKit
theorem cell_at {m : Mp} {x y : Nat} {w : Nat} (hw : m.W = (w : Int)) (hx : x < w) : cellX m (y * w + x) = (x : Int) ∧ cellY m (y * w + x) = (y : Int) := by
  unfold cellX cellY
  rw [hw, ← Int.natCast_emod, ← Int.natCast_ediv]
  have h1 : (y * w + x) % w = x := by rw [Nat.add_comm, Nat.add_mul_mod_self_right, Nat.mod_eq_of_lt hx]
  have h2 : (y * w + x) / w = y := by rw [Nat.add_comm, Nat.add_mul_div_right _ _ (by omega), Nat.div_eq_of_lt hx, Nat.zero_add]
  rw [h1, h2]
  exact ⟨rfl, rfl⟩
set_option maxRecDepth 20000 in
set_option maxHeartbeats 8000000 in
theorem view_any (m : Mp) (v u : Value) (es : List (Int × Int × Int)) (w : World) (hm : MapAt w v m) (hu : RowAt encY 3 w u es) (hn : es.length ≤ 10000) : Calls Try.prog 10 #[v, u] w fun e w' => OutB2 w (viewV m es) (viewE m) e w' := by
  have h26 : Hid (∀ W v, MapAt W v m → Calls Try.prog 26 #[v] W fun e w' => Out W (.bool (formed m)) e w') := fun W v h => formed_any m v W h
  have HM := hid (fun W (h : Below w.heap.size w W) => hm.below h)
  have HU := hid (fun W (h : Below w.heap.size w W) => hu.below h)
  rcases hf : formed m with _ | _
  · have e1 : viewV m es = [] := by unfold viewV; rw [hf]; rfl
    have e2 : viewE m = 4 := by unfold viewE; rw [hf]; rfl
    rw [e1, e2]
    rw [hf] at h26
    clear e1 e2 hf
    unfold OutB2
    obtain ⟨p, c, q, d, rfl, -, -⟩ := hm
    obtain ⟨pe, ce, rfl⟩ := hu.form
    generalize es.length = N at *
    obtain ⟨a, b, ts, os⟩ := m
    simp only at HM ⊢
    generalize ts.length = M at *
    generalize os.length = O at *
    clear hu hn
    go_enter Try.func10, Try.ntmps10
    go_upto_region 1 with (fail)
    obtain ⟨W, hW⟩ : ∃ W, W = w.alloc (.cells #[Value.int .i64 a, .int .i64 b, .slice p M c, .slice q O d] 24) := ⟨_, rfl⟩
    obtain ⟨B, hB⟩ : ∃ B, B = w.heap.size := ⟨_, rfl⟩
    rw [← hW, ← hB]
    obtain ⟨hk, hbe⟩ := map_box w a b _ _ W B hW hB
    obtain ⟨a0, a1, a2, a3⟩ := hk W (Below.refl _ _)
    have HBE := hid hbe
    clear hW hB hk hbe
    go_wp2_with fail
    refine Calls.mono (h26.out _ _ (HM.out _ (HBE.out W (Below.refl _ _)))) ?_
    rintro e w1 ⟨rfl, hb1⟩
    have HB1 := hid hb1
    clear hb1
    go_wp2
    go_ret2
    exact ⟨_, rfl, OwnR.nil _ _ _ _ _, HBE.out _ HB1.out⟩
  · have e1 : viewV m es = viewL m es := by unfold viewV; rw [hf]; rfl
    have e2 : viewE m = 0 := by unfold viewE; rw [hf]; rfl
    rw [e1, e2]
    obtain ⟨f1, f2, f3, f4, f5, f6⟩ := area_of hf
    have h27 : Hid (∀ W v, MapAt W v m → RowAt encY 3 W u es → Calls Try.prog 27 #[v, u] W fun e w' => OutY 48 W (keenTo m es es.length) e w') := fun W v h h' => keenest_any m v u es W h h' hn
    obtain ⟨ks, hks⟩ : ∃ ks, ks = keenTo m es es.length := ⟨_, rfl⟩
    have hkl : ks.length ≤ 10000 := by rw [hks]; have := keenTo_length m es es.length (Nat.le_refl _); omega
    have hkv : ∀ x y, vis m ks x y = vis m es x y := by rw [hks]; exact keenTo_vis m es _ rfl
    rw [← hks] at h27
    have h14 : Hid (∀ x y k W v, MapAt W v m → RowAt encY 3 W k ks → Calls Try.prog 14 #[v, C x y, k] W fun e w' => Out W (.bool (vis m es x y)) e w') := fun x y k W v h h' => by
      rw [← hkv]; exact visible_any m v k x y ks W h h' (by omega)
    rw [hf] at h26
    clear e1 e2 hf hkv hks
    unfold OutB2 viewL
    obtain ⟨wd, hwd⟩ : ∃ wd : Nat, m.W = (wd : Int) := ⟨m.W.toNat, by omega⟩
    obtain ⟨hg, hhg⟩ : ∃ hg : Nat, m.H = (hg : Int) := ⟨m.H.toNat, by omega⟩
    have hT : (m.W * m.H).toNat = hg * wd := by rw [hwd, hhg, ← Int.natCast_mul, Int.toNat_natCast, Nat.mul_comm]
    have hT2 : m.W * m.H = ((hg * wd : Nat) : Int) := by rw [hwd, hhg, ← Int.natCast_mul, Nat.mul_comm]
    rw [hT]
    have HCA : Hid (∀ x y, x < wd → vis m es (cellX m (y * wd + x)) (cellY m (y * wd + x)) = vis m es (x : Int) (y : Int)) := fun x y h => by
      obtain ⟨h1, h2⟩ := cell_at (m := m) (y := y) hwd h
      rw [h1, h2]
    have HVS := hid (viewTo_succ m es)
    have HVL := hid (viewTo_length m es)
    generalize viewTo m es = vt at *
    obtain ⟨p, c, q, d, rfl, -, -⟩ := hm
    obtain ⟨pe, ce, rfl⟩ := hu.form
    generalize es.length = N at *
    obtain ⟨a, b, ts, os⟩ := m
    simp only at HM f1 f2 f3 f4 f5 f6 hwd hhg hT2 ⊢
    subst hwd hhg
    generalize ts.length = M at *
    generalize os.length = O at *
    have hT3 : hg * wd ≤ 400 := by omega
    obtain ⟨T, hTT⟩ : ∃ T, T = hg * wd := ⟨_, rfl⟩
    have HT := hid (fun (_ : Nat) => hTT)
    rw [← hTT] at hT2 hT3
    have hwm : wrap64 ((wd : Int) * (hg : Int)) = (T : Int) := by rw [hT2]; exact wrap_small ⟨by omega, by omega⟩
    have h0v : vt 0 = [] := by have := HVL.out 0; rwa [List.length_eq_zero_iff] at this
    have H0V := hid (fun (_ : Nat) => h0v)
    clear hu hn hT hT2 f5 f6 hTT h0v
    unfold C at *
    go_enter Try.func10, Try.ntmps10
    go_upto_region 1 with (fail)
    obtain ⟨W, hW⟩ : ∃ W, W = w.alloc (.cells #[Value.int .i64 (wd : Int), .int .i64 (hg : Int), .slice p M c, .slice q O d] 24) := ⟨_, rfl⟩
    obtain ⟨B, hB⟩ : ∃ B, B = w.heap.size := ⟨_, rfl⟩
    rw [← hW, ← hB]
    obtain ⟨hk, hbe⟩ := map_box w _ _ _ _ W B hW hB
    obtain ⟨a0, a1, a2, a3⟩ := hk W (Below.refl _ _)
    have HK := hid hk
    have HBE := hid hbe
    have HWB : Hid (W.heap.size = B + 1) := by rw [hW, hB]; exact hid (by simp)
    have HB0 := hid (fun (_ : Nat) => hB)
    clear hW hB hk hbe
    go_wp2_with fail
    refine Calls.mono (h26.out _ _ (HM.out _ (HBE.out W (Below.refl _ _)))) ?_
    rintro e w1 ⟨rfl, hb1⟩
    obtain ⟨b0, b1, b2, b3⟩ := HK.out w1 hb1
    have HB1 := hid hb1
    clear hb1 a0 a1 a2 a3 h26
    go_wp2_with fail
    refine Calls.mono (h27.out _ _ (HM.out _ (HBE.out _ HB1.out)) (HU.out _ (HBE.out _ HB1.out))) ?_
    rintro e w2 ⟨vk, rfl, hok, hb2⟩
    have HB2 := hid (HB1.out.trans (hb2.mono HB1.out.size))
    have hrk := hok.row layY
    have HRK := hid (fun W' (h : Below w2.heap.size w2 W') => hrk.below h)
    obtain ⟨pk, ck, rfl⟩ := hok.form
    clear hb2 b0 b1 b2 b3 h27 hrk hok
    generalize ks.length = KL at *
    obtain ⟨b0, b1, b2, b3⟩ := HK.out w2 HB2.out
    go_upto_region 5 with (first
      | ((with_reducible refine wpL_make0 (enc := encB) (k := 1) Try.underlying30 info4 (by omega) T (by omega) ?_ ?_ ?_); (rfl); (exact congrArg (Value.int .i64) hwm); (intro w3 ho3 hb3); (have HO3 := hid ho3; have HB3 := hid hb3; clear ho3 hb3); (simp only [Act.put, List.setIfInBounds_toArray, List.set_cons_zero, List.set_cons_succ])))
    have HRK3 := hid (fun W' (h : Below w3.heap.size w3 W') => HRK.out W' (HB3.out.trans (h.mono HB3.out.size)))
    have HBW : Hid (Below W.heap.size W w3) := HB2.out.trans (HB3.out.mono HB2.out.size)
    obtain ⟨D, hD⟩ : ∃ D, D = w2.heap.size := ⟨_, rfl⟩
    have HWD : Hid (W.heap.size ≤ D) := by rw [hD]; exact HB2.out.size
    have HRK4 : Hid (∀ W', Below D w2 W' → RowAt encY 3 W' (.slice pk KL ck) ks) := by rw [hD]; exact fun W' h => HRK.out W' h
    have HDB : Hid (∀ W', Below D w2 W' → Below W.heap.size W W') := fun W' h => HB2.out.trans (h.mono HWD.out)
    have HB3' : Hid (Below D w2 w3) := by rw [hD]; exact HB3
    rw [← hD] at HO3 ⊢
    have HD0 := hid (fun (_ : Nat) => hD)
    clear HRK HRK3 HB3 HBW hD b0 b1 b2 b3 hwm
    obtain ⟨b0, b1, b2, b3⟩ := HK.out w3 (HDB.out _ HB3'.out)
    go_wp2_with fail
    go_loopw [24, 7] (fun yv sv wr => ∃ y : Nat, y ≤ hg ∧ yv = .int .i64 (y : Int) ∧ Hid (Below D w2 wr) ∧ Hid (OwnR encB 4 1 wr D sv (vt (y * wd)))) (fun yv _ _ => hg - (intOf yv).toNat)
    case atStart => exact ⟨0, by omega, rfl, HB3', by rw [Nat.zero_mul, H0V.out 0]; exact HO3⟩
    case round =>
      clear b0 b1 b2 b3 HO3 HB3'
      obtain ⟨y, hy, rfl, HB, HO⟩ := hrel
      by_cases hlt : y < hg
      · have hlt' : (y : Int) < (hg : Int) := by omega
        obtain ⟨b0, b1, b2, b3⟩ := HK.out wr (HDB.out _ HB.out)
        have HYM : Hid (y * wd + wd ≤ T) := by rw [HT.out 0, ← Nat.succ_mul]; exact hid (Nat.mul_le_mul_right wd hlt)
        go_upto_region 9 with fail
        go_loopw [29, 7] (fun xv sv wr => ∃ x : Nat, x ≤ wd ∧ xv = .int .i64 (x : Int) ∧ Hid (Below D w2 wr) ∧ Hid (OwnR encB 4 1 wr D sv (vt (y * wd + x)))) (fun xv _ _ => wd - (intOf xv).toNat)
        case atStart => exact ⟨0, by omega, rfl, HB, HO⟩
        case round =>
          clear b0 b1 b2 b3 HO HB
          obtain ⟨x, hx, rfl, HB, HO⟩ := hrel
          obtain ⟨b0, b1, b2, b3⟩ := HK.out wr (HDB.out _ HB.out)
          by_cases hxl : x < wd
          · have hxl' : (x : Int) < (wd : Int) := by omega
            have hvs := HVS.out (y * wd + x)
            rw [HCA.out x y hxl] at hvs
            obtain ⟨n, hn⟩ : ∃ n, n = y * wd + x := ⟨_, rfl⟩
            have HN1 : Hid (y * wd + (x + 1) = n + 1) := by rw [hn]; exact hid (by omega)
            have hnT : n + 1 ≤ 400 := by have := HYM.out; omega
            rw [← hn] at HO hvs
            have HVN := hid hvs
            have hvl := HVL.out n
            have HVLn : Hid ((vt n).length + 1 = n + 1) := by rw [hvl]; exact hid rfl
            obtain ⟨p0, cap0, rfl⟩ := HO.out.form
            rw [hvl] at HO ⊢
            have HCALL := hid (fun W v h h' => h14.out (x : Int) (y : Int) (.slice pk KL ck) W v h h')
            clear hn hvs hvl
            generalize vis ⟨(wd : Int), (hg : Int), ts, os⟩ es (x : Int) (y : Int) = R at *
            generalize vt n = xs at *
            replace HVLn : Hid (xs.length + [R].length = n + 1) := HVLn
            go_wp2_with fail
            refine Calls.mono (HCALL.out _ _ (HM.out _ (HBE.out _ (HDB.out _ HB.out))) (HRK4.out _ HB.out)) ?_
            rintro e w5 ⟨rfl, hb5⟩
            have HDw : Hid (D ≤ wr.heap.size) := hid (by have h1 := HB.out.size; have := HD0.out 0; omega)
            have HB5 := hid (HB.out.trans (hb5.mono HDw.out))
            have HO5 := hid (HO.out.below hb5)
            clear hb5 HO HB b0 b1 b2 b3 HCALL
            have HD5 : Hid (D ≤ w5.heap.size) := hid (by have h1 := HB5.out.size; have := HD0.out 0; omega)
            obtain ⟨U, hU⟩ : ∃ U, U = w5.alloc (.cells #[Value.bool R] 4) := ⟨_, rfl⟩
            have HUB : Hid (Below w5.heap.size w5 U) := by rw [hU]; exact (Below.refl _ _).alloc (Nat.le_refl _) _
            have HUG : Hid (RowAt encB 1 U (.slice (some ⟨w5.heap.size, 0, none⟩) 1 1) [R]) := by rw [hU]; exact RowAt.one _ _ _ _ rfl
            have HBU := hid (HB5.out.trans (HUB.out.mono HD5.out))
            have HOU := hid (HO5.out.below HUB.out)
            have HDU : Hid (D ≤ U.heap.size) := hid (Nat.le_trans HD5.out HUB.out.size)
            rw [hU] at HUG HBU HOU HDU
            clear hU HUB HB5 HO5 HD5
            go_wp2_with (first
              | ((with_reducible refine wpL_appendR layB Try.underlying30 info4 rfl (by omega) D (.slice p0 n cap0) (.slice (some ⟨w5.heap.size, 0, none⟩) 1 1) xs [R] (n + 1) (by simp) HVLn.out ?_ ?_ HOU.out HUG.out (by omega) HDU.out ?_); (rfl); (rfl); (intro p5 c5 w6 ho6 hg6); (have HB6 := hid (HBU.out.trans (hg6.belowR HOU.out HDU.out)); rw [← HVN.out] at ho6; have HO6 := hid ho6; clear ho6 hg6); (simp only [Act.put, List.setIfInBounds_toArray, List.set_cons_zero, List.set_cons_succ])))
            go_roundw
            case rel => exact ⟨x + 1, by omega, by simp, HB6, by rw [HN1.out]; exact HO6⟩
            case measure => simp [intOf]; omega
          · obtain rfl : x = wd := by omega
            have hxl' : ((x : Int) < (x : Int)) = False := by simp
            rw [← Nat.succ_mul] at HO
            go_wp2
            go_roundw
            case rel => exact ⟨y + 1, by omega, by simp, HB, HO⟩
            case measure => simp [intOf]; omega
      · obtain rfl : y = hg := by omega
        have hlt' : ((y : Int) < (y : Int)) = False := by simp
        go_wp2
        go_ret2
        exact ⟨_, rfl, HO.out.mono (by have := HB0.out 0; have := HWB.out; have := HWD.out; omega), HBE.out _ (HDB.out _ HB.out)⟩
end Go.Proofs.Yteijncfnifebjaa
