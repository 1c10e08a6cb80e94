/- The reference: View 11. -/
import Derived.Test.YteijncfnifebjaaRefA
namespace Go.Proofs.Yteijncfnifebjaa
open Go.RowKit
/-- The cell at a place of a view. -/
def cellX (m : Mp) (i : Nat) : Int := (i : Int) % m.W
def cellY (m : Mp) (i : Nat) : Int := (i : Int) / m.W
def viewTo (m : Mp) (es : List (Int × Int × Int)) (n : Nat) : List Bool := (List.range n).map fun i => vis m es (cellX m i) (cellY m i)
def viewL (m : Mp) (es : List (Int × Int × Int)) : List Bool := viewTo m es (m.W * m.H).toNat
def viewV (m : Mp) (es : List (Int × Int × Int)) : List Bool := if formed m then viewL m es else []
def viewE (m : Mp) : Int := if formed m then 0 else 4
def OutB2 (w : World) (bs : List Bool) (E : Int) (e : Ending) (w' : World) : Prop := ∃ v, e = .returned (.tuple #[v, .int .i64 E]) ∧ OwnR encB 4 1 w' w.heap.size v bs ∧ Below w.heap.size w w'
theorem viewTo_succ (m : Mp) (es : List (Int × Int × Int)) (n : Nat) : viewTo m es (n + 1) = viewTo m es n ++ [vis m es (cellX m n) (cellY m n)] := by
  unfold viewTo
  rw [List.range_succ, List.map_append]; rfl
theorem viewTo_length (m : Mp) (es : List (Int × Int × Int)) (n : Nat) : (viewTo m es n).length = n := by simp [viewTo]
theorem area_of {m : Mp} (h : formed m = true) : 4 ≤ m.W ∧ m.W ≤ 20 ∧ 4 ≤ m.H ∧ m.H ≤ 20 ∧ 16 ≤ m.W * m.H ∧ m.W * m.H ≤ 400 := by
  obtain ⟨f1, f2, _⟩ := formed_of h
  have := prod_bound (a := m.W) (b := m.H) (by omega) (by omega)
  omega
set_option maxRecDepth 20000 in
set_option maxHeartbeats 4000000 in
theorem refView_any (m : Mp) (v u : Value) (es : List (Int × Int × Int)) (w : World) (hm : MapAt w v m) (hu : RowAt encY 3 w u es) (hn : es.length ≤ 10000) : Calls Try.prog 11 #[v, u] w fun e w' => OutB2 w (viewV m es) (viewE m) e w' := by
  have h24 : Hid (∀ W v, MapAt W v m → Calls Try.prog 24 #[v] W fun e w' => Out W (.bool (formed m)) e w') := fun W v h => refFormed_any m v W h
  have HM := hid (fun W (h : Below w.heap.size w W) => hm.below h)
  have HU := hid (fun W (h : Below w.heap.size w W) => hu.below h)
  rcases hf : formed m with _ | _
  · have e1 : viewV m es = [] := by unfold viewV; rw [hf]; rfl
    have e2 : viewE m = 4 := by unfold viewE; rw [hf]; rfl
    rw [e1, e2]
    rw [hf] at h24
    clear e1 e2 hf
    unfold OutB2
    obtain ⟨p, c, q, d, rfl, -, -⟩ := hm
    obtain ⟨pe, ce, rfl⟩ := hu.form
    generalize es.length = N at *
    obtain ⟨a, b, ts, os⟩ := m
    simp only at HM ⊢
    generalize ts.length = M at *
    generalize os.length = O at *
    clear hu hn
    go_enter Try.func11, Try.ntmps11
    go_upto_region 1 with (fail)
    obtain ⟨W, hW⟩ : ∃ W, W = w.alloc (.cells #[Value.int .i64 a, .int .i64 b, .slice p M c, .slice q O d] 24) := ⟨_, rfl⟩
    obtain ⟨B, hB⟩ : ∃ B, B = w.heap.size := ⟨_, rfl⟩
    rw [← hW, ← hB]
    obtain ⟨hk, hbe⟩ := map_box w a b _ _ W B hW hB
    obtain ⟨a0, a1, a2, a3⟩ := hk W (Below.refl _ _)
    have HBE := hid hbe
    have HWB := hid (fun (_ : Nat) => hB)
    clear hW hB hk hbe
    go_wp2_with fail
    refine Calls.mono (h24.out _ _ (HM.out _ (HBE.out W (Below.refl _ _)))) ?_
    rintro e w1 ⟨rfl, hb1⟩
    have HB1 := hid hb1
    clear hb1
    go_wp2
    go_ret2
    exact ⟨_, rfl, OwnR.nil _ _ _ _ _, HBE.out _ HB1.out⟩
  · have e1 : viewV m es = viewL m es := by unfold viewV; rw [hf]; rfl
    have e2 : viewE m = 0 := by unfold viewE; rw [hf]; rfl
    rw [e1, e2]
    obtain ⟨f1, f2, f3, f4, f5, f6⟩ := area_of hf
    have h28 : Hid (∀ x y W v, MapAt W v m → RowAt encY 3 W u es → Calls Try.prog 28 #[v, C x y, u] W fun e w' => Out W (.bool (vis m es x y)) e w') := fun x y W v h h' => refVisible_any m v u x y es W h h' (by omega) hf
    rw [hf] at h24
    clear e1 e2 hf
    unfold OutB2 viewL
    obtain ⟨T, hT⟩ : ∃ T, T = (m.W * m.H).toNat := ⟨_, rfl⟩
    have hT2 : m.W * m.H = (T : Int) := by omega
    have HT2 := hid (fun (_ : Nat) => hT2)
    have hT3 : (T : Int) ≤ 400 := by omega
    rw [← hT]
    have HVS := hid (viewTo_succ m es)
    have HCX : Hid (∀ i, cellX m i = (i : Int) % m.W) := fun _ => rfl
    have HCY : Hid (∀ i, cellY m i = (i : Int) / m.W) := fun _ => rfl
    obtain ⟨p, c, q, d, rfl, -, -⟩ := hm
    obtain ⟨pe, ce, rfl⟩ := hu.form
    generalize es.length = N at *
    have HVL := hid (viewTo_length m es)
    generalize viewTo m es = vt at *
    have HV : Hid (∀ i, vis m es (cellX m i) (cellY m i) = vis m es ((i : Int) % m.W) ((i : Int) / m.W)) := fun _ => rfl
    obtain ⟨a, b, ts, os⟩ := m
    simp only at HM f1 f2 f3 f4 f5 f6 HT2 hT2 HCX HCY HV ⊢
    generalize ts.length = M at *
    generalize os.length = O at *
    have HMUL : Hid (a * b = (T : Int)) := hT2
    have hwm : wrap64 (a * b) = (T : Int) := by rw [hT2]; exact wrap_small ⟨by omega, by omega⟩
    clear hu hn hT hT2 f5 f6
    unfold C at *
    go_enter Try.func11, Try.ntmps11
    go_upto_region 1 with (fail)
    obtain ⟨W, hW⟩ : ∃ W, W = w.alloc (.cells #[Value.int .i64 a, .int .i64 b, .slice p M c, .slice q O d] 24) := ⟨_, rfl⟩
    obtain ⟨B, hB⟩ : ∃ B, B = w.heap.size := ⟨_, rfl⟩
    rw [← hW, ← hB]
    obtain ⟨hk, hbe⟩ := map_box w a b _ _ W B hW hB
    obtain ⟨a0, a1, a2, a3⟩ := hk W (Below.refl _ _)
    have HK := hid hk
    have HBE := hid hbe
    have HWB : Hid (W.heap.size = B + 1) := by rw [hW, hB]; exact hid (by simp)
    have HB0 := hid (fun (_ : Nat) => hB)
    clear hW hB hk hbe
    go_wp2_with fail
    refine Calls.mono (h24.out _ _ (HM.out _ (HBE.out W (Below.refl _ _)))) ?_
    rintro e w1 ⟨rfl, hb1⟩
    have HB1 := hid hb1
    clear hb1 a0 a1 a2 a3 h24
    go_wp2_with fail
    go_loopw [7, 6] (fun iv sv wr => ∃ i : Nat, i ≤ T ∧ iv = .int .i64 (i : Int) ∧ Hid (Below W.heap.size W wr) ∧ Hid (OwnR encB 4 1 wr W.heap.size sv (vt i))) (fun iv _ _ => T - (intOf iv).toNat)
    case atStart => exact ⟨0, by omega, rfl, HB1, by have := HVL.out 0; rw [List.length_eq_zero_iff] at this; rw [this]; exact OwnR.nil _ _ _ _ _⟩
    case round =>
      obtain ⟨i, hi, rfl, HB, HO⟩ := hrel
      obtain ⟨a0, a1, a2, a3⟩ := HK.out wr HB.out
      by_cases hlt : i < T
      · have hlt' : (i : Int) < (T : Int) := by omega
        have ha0 : (0 : Int) ≤ (i : Int) := by omega
        have hz : (a = 0) = False := by simp; omega
        have ht1 : (i : Int).tmod a = (i : Int) % a := Int.tmod_eq_emod_of_nonneg ha0
        have ht2 : (i : Int).tdiv a = (i : Int) / a := Int.tdiv_eq_ediv_of_nonneg ha0
        have hq1 : 0 ≤ (i : Int) / a := Int.ediv_nonneg ha0 (by omega)
        have hq2 : (i : Int) / a ≤ 9223372036854775807 := by have := Int.ediv_le_self a ha0; omega
        have hvs := hid (HVS.out i)
        rw [HV.out i] at hvs
        obtain ⟨x, hx⟩ : ∃ x, x = (i : Int) % a := ⟨_, rfl⟩
        obtain ⟨y, hy⟩ : ∃ y, y = (i : Int) / a := ⟨_, rfl⟩
        rw [← hx, ← hy] at hvs
        rw [← hx] at ht1
        rw [← hy] at ht2 hq1 hq2
        have hwy : IntKind.i64.wrap y = y := by rw [IntKind.wrap_i64]; omega
        have HCALL := hid (fun W v h h' => h28.out x y W v h h')
        have HLE : Hid ((vt i).length + 1 = i + 1) := by rw [HVL.out i]; exact hid rfl
        obtain ⟨p0, cap0, rfl⟩ := HO.out.form
        have hi0 : (vt i).length = i := HVL.out i
        rw [hi0] at HO ⊢
        clear hx hy hq1 hq2 hi0
        generalize vis ⟨a, b, ts, os⟩ es x y = R at *
        generalize vt i = xs at *
        go_upto_region 7 with (fail)
        have n0 : ∀ z : Nx W, z.w.cell? ⟨B, 0, none⟩ = some (.int .i64 a) := fun z => (HK.out z.w z.h).1
        have n1 : ∀ z : Nx W, z.w.cell? ⟨B, 1, none⟩ = some (.int .i64 b) := fun z => (HK.out z.w z.h).2.1
        have n2 : ∀ z : Nx W, z.w.cell? ⟨B, 2, none⟩ = some (.slice p M c) := fun z => (HK.out z.w z.h).2.2.1
        have n3 : ∀ z : Nx W, z.w.cell? ⟨B, 3, none⟩ = some (.slice q O d) := fun z => (HK.out z.w z.h).2.2.2
        have HBD : Hid (Below W.heap.size W wr.drew) := Below.drewN HB.out 1
        have HOD : Hid (OwnR encB 4 1 wr.drew W.heap.size (.slice p0 i cap0) xs) := HO.out.stay fun _ _ => rfl
        obtain ⟨P0, hP0⟩ : ∃ P0, P0 = wr.drew := ⟨_, rfl⟩
        refine wp_region_calm (S := fun w' => ∃ x : Nx W, w' = x.w) [(0, false), (1, false), (2, false), (3, false), (4, false), (5, false), (6, false), (7, false), (8, false), (9, false), (10, false), (11, false), (12, true), (13, true), (14, true), (15, false)] (by kernel_rfl) (by kernel_rfl) rfl (by kernel_rfl) ⟨⟨wr.drew, HBD.out⟩, rfl⟩ ?_
        rw [← hP0] at HBD HOD ⊢
        clear hP0 HO HB a0 a1 a2 a3
        repeat (refine plan_take rfl (fun K hK => ?_); go_simp; refine ⟨_, fun _ => rfl, hK _ ?_⟩; clear hK K)
        refine plan_turn rfl (fun K hK => ?_)
        go_simp
        refine Calls.mono (HCALL.out _ _ (HM.out _ (HBE.out _ HBD.out)) (HU.out _ (HBE.out _ HBD.out))) ?_
        rintro _ w5 ⟨rfl, hb5⟩
        have HB5 := hid (HBD.out.trans (hb5.mono HBD.out.size))
        have HO5 := hid (HOD.out.below hb5)
        refine hK _ _ ⟨⟨w5, HB5.out⟩, rfl⟩ ?_
        clear hK K hb5 HOD HBD n0 n1 n2 n3 HCALL
        refine plan_turn rfl (fun K hK => ?_)
        go_simp
        obtain ⟨U, hU⟩ : ∃ U, U = w5.alloc (.cells #[Value.bool R] 4) := ⟨_, rfl⟩
        have HUB : Hid (Below w5.heap.size w5 U) := by rw [hU]; exact (Below.refl _ _).alloc (Nat.le_refl _) _
        have HUG : Hid (RowAt encB 1 U (.slice (some ⟨w5.heap.size, 0, none⟩) 1 1) [R]) := by rw [hU]; exact RowAt.one _ _ _ _ rfl
        have HBU := hid (HB5.out.trans (HUB.out.mono HB5.out.size))
        have HOU := hid (HO5.out.below HUB.out)
        rw [← hU]
        refine hK _ _ ⟨⟨U, HBU.out⟩, rfl⟩ ?_
        clear hK K hU HUB HB5 HO5
        refine plan_turn rfl (fun K hK => ?_)
        rw [if_pos (by rfl)]
        refine turn_of_list (ops := #[]) rfl ?_
        refine wpL_appendR layB Try.underlying30 info4 rfl (by omega) W.heap.size (.slice p0 i cap0) (.slice (some ⟨w5.heap.size, 0, none⟩) 1 1) xs [R] (i + 1) (by simp) HLE.out rfl rfl HOU.out HUG.out (by omega) HBU.out.size ?_
        intro p5 c5 w6 ho6 hg6
        have HB6 := hid (HBU.out.trans (hg6.belowR HOU.out HBU.out.size))
        rw [← hvs.out] at ho6
        have HO6 := hid ho6
        clear ho6 hg6
        refine ⟨rfl, hK _ _ ⟨⟨w6, HB6.out⟩, rfl⟩ ?_⟩
        clear hK K
        simp only [Act.put, List.setIfInBounds_toArray, List.set_cons_zero, List.set_cons_succ]
        (refine plan_take rfl (fun K hK => ?_); go_simp; refine ⟨_, fun _ => rfl, hK _ ?_⟩; clear hK K)
        refine plan_done ⟨rfl, ?_⟩
        go_wp2
        exact ⟨⟨i + 1, by omega, by simp, HB6, HO6⟩, by simp [intOf]; omega⟩
      · obtain rfl : i = T := by omega
        go_wp2
        go_ret2
        exact ⟨_, rfl, HO.out.mono (by have := HB0.out 0; have := HWB.out; omega), HBE.out _ HB.out⟩
end Go.Proofs.Yteijncfnifebjaa
