/- The reference: Visible 15, plain 12, SameBools 13. -/
import Derived.Test.YteijncfnifebjaaRefVis
import Derived.Test.YteijncfnifebjaaPlan
namespace Go.Proofs.Yteijncfnifebjaa
open Go.RowKit
theorem sees_out {m : Mp} {ax ay x y : Int} (h : (formed m && holds m x y) = false) : sees m ax ay x y = false := by
  unfold sees
  revert h
  cases formed m <;> cases holds m ax ay <;> cases holds m x y <;> simp
theorem sees_from {m : Mp} {ax ay x y : Int} (h : (formed m && holds m ax ay) = false) : sees m ax ay x y = false := by
  unfold sees
  revert h
  cases formed m <;> cases holds m ax ay <;> cases holds m x y <;> simp
theorem vis_out {m : Mp} {x y : Int} (h : (formed m && holds m x y) = false) (es : List (Int × Int × Int)) : vis m es x y = false := by
  unfold vis
  rw [List.any_eq_false]
  intro e _
  unfold vis1
  rw [sees_out h, Bool.and_false]
  exact Bool.false_ne_true
set_option maxHeartbeats 4000000 in
theorem refVis15_any (m : Mp) (v u : Value) (x y : Int) (es : List (Int × Int × Int)) (w : World) (hm : MapAt w v m) (hu : RowAt encY 3 w u es) (hn : es.length ≤ 1000000) : Calls Try.prog 15 #[v, C x y, u] w fun e w' => Out w (.bool (vis m es x y)) e w' := by
  have h23 : Hid (∀ W v, MapAt W v m → Calls Try.prog 23 #[v, C x y] W fun e w' => Out W (.bool (formed m && holds m x y)) e w') := fun W v h => refInside_any m v x y W h
  have h28 : Hid ((formed m && holds m x y) = true → ∀ W v, MapAt W v m → RowAt encY 3 W u es → Calls Try.prog 28 #[v, C x y, u] W fun e w' => Out W (.bool (vis m es x y)) e w') := fun hf W v h h' => refVisible_any m v u x y es W h h' hn (by rw [Bool.and_eq_true] at hf; exact hf.1)
  have HV := hid (vis_out (m := m) (x := x) (y := y) · es)
  have HM := hid (fun W (h : Below w.heap.size w W) => hm.below h)
  have HU := hid (fun W (h : Below w.heap.size w W) => hu.below h)
  unfold Out
  generalize vis m es x y = R at *
  generalize (formed m && holds m x y) = F at *
  obtain ⟨p, c, q, d, rfl, -, -⟩ := hm
  obtain ⟨pe, ce, rfl⟩ := hu.form
  generalize es.length = N at *
  obtain ⟨a, b, ts, os⟩ := m
  simp only at HM ⊢
  generalize ts.length = M at *
  generalize os.length = O at *
  clear hu hn
  unfold C at *
  go_enter Try.func15, Try.ntmps15
  go_upto_region 1 with (fail)
  obtain ⟨W, hW⟩ : ∃ W, W = (w.alloc (.cells #[Value.int .i64 a, .int .i64 b, .slice p M c, .slice q O d] 24)).alloc (.cells #[Value.int .i64 x, .int .i64 y] 27) := ⟨_, rfl⟩
  obtain ⟨B, hB⟩ : ∃ B, B = w.heap.size := ⟨_, rfl⟩
  rw [← hW, ← hB]
  obtain ⟨hk, hbe⟩ := map_cell_box w a b _ _ x y W B hW hB
  obtain ⟨a0, a1, a2, a3, a4, a5⟩ := hk W (Below.refl _ _)
  have HK := hid hk
  have HBE := hid hbe
  clear hW hB hk hbe
  go_wp2_with fail
  refine Calls.mono (h23.out _ _ (HM.out _ (HBE.out W (Below.refl _ _)))) ?_
  rintro e w1 ⟨rfl, hb1⟩
  have HB1 := hid hb1
  obtain ⟨b0, b1, b2, b3, b4, b5⟩ := HK.out w1 hb1
  clear hb1 a0 a1 a2 a3 a4 a5
  rcases F with _ | _
  · have hR := HV.out rfl
    subst hR
    go_wp2
    go_ret
    exact ⟨rfl, HBE.out _ HB1.out⟩
  · go_wp2_with fail
    refine Calls.mono (h28.out trivial _ _ (HM.out _ (HBE.out w1 HB1.out)) (HU.out _ (HBE.out w1 HB1.out))) ?_
    rintro e w2 ⟨rfl, hb2⟩
    have HB2 := hid (HB1.out.trans (hb2.mono HB1.out.size))
    clear hb2
    go_wp2
    go_ret
    exact ⟨rfl, HBE.out _ HB2.out⟩
set_option maxRecDepth 20000 in
set_option maxHeartbeats 4000000 in
theorem sameBools_any (xs : List Bool) (p q : Option Addr) (N cap cap' : Nat) (w : World) (h : RowAt encB 1 w (.slice p N cap) xs) (h' : RowAt encB 1 w (.slice q N cap') xs) (hN : N ≤ 1000000) : Calls Try.prog 13 #[.slice p N cap, .slice q N cap'] w fun e w' => Out w (.bool true) e w' := by
  unfold Out
  have H0 := hid h
  have H1 := hid h'
  have hN' : (N : Int) ≤ 1000000 := by omega
  clear h h' hN
  go_enter Try.func13, Try.ntmps13
  go_wp2_with fail
  go_loopw [5] (fun iv wr => ∃ i : Nat, iv = .int .i64 (i : Int) ∧ i ≤ N ∧ Hid (Below w.heap.size w wr)) (fun iv _ => N - (intOf iv).toNat)
  case atStart => exact ⟨0, rfl, by omega, Below.refl _ _⟩
  case round =>
    obtain ⟨i, rfl, hi, HB⟩ := hrel
    by_cases hlt : i < N
    · obtain ⟨hx, sb, so, rfl, hsb, hc⟩ := RowAt.pos layB H0.out i hlt
      obtain ⟨hx', sb', so', rfl, hsb', hc'⟩ := RowAt.pos layB H1.out i hlt
      have hc := hc 0 _ rfl
      have hc' := hc' 0 _ rfl
      rw [Nat.mul_one, Nat.add_zero] at hc hc'
      have c0 : wr.cell? ⟨sb, so + i, none⟩ = some (.bool xs[i]) := by rw [HB.out.cell (p := ⟨sb, so + i, none⟩) hsb]; exact hc
      have c1 : wr.cell? ⟨sb', so' + i, none⟩ = some (.bool xs[i]) := by rw [HB.out.cell (p := ⟨sb', so' + i, none⟩) hsb']; exact hc'
      have e2 : (i : Int) < (N : Int) := by omega
      have e3 : (0 : Int) ≤ (i : Int) := by omega
      clear hc hc'
      generalize xs[i] = X at *
      go_upto_region 6 with fail
      rcases X with _ | _
      all_goals go_quiet (fail)
      all_goals go_wp2
      all_goals exact ⟨⟨i + 1, by simp, by omega, Below.drewN HB.out _⟩, by simp [intOf]; omega⟩
    · obtain rfl : i = N := by omega
      go_wp2
      go_ret
      exact ⟨rfl, HB.out⟩
def OutY (T : TypeId) (w : World) (es : List (Int × Int × Int)) (e : Ending) (w' : World) : Prop := ∃ v, e = .returned v ∧ OwnR encY T 3 w' w.heap.size v es ∧ Below w.heap.size w w'
set_option maxRecDepth 20000 in
set_option maxHeartbeats 4000000 in
theorem plain_any (u : Value) (es : List (Int × Int × Int)) (w : World) (hu : RowAt encY 3 w u es) (hn : es.length ≤ 10000) : Calls Try.prog 12 #[u] w fun e w' => OutY 58 w es e w' := by
  have HU := hid (fun W (h : Below w.heap.size w W) => hu.below h)
  obtain ⟨N, hN⟩ : ∃ N, N = es.length := ⟨_, rfl⟩
  obtain ⟨pe, ce, rfl⟩ := hu.form
  rw [← hN] at HU hn ⊢
  have HN := hid (fun (_ : Nat) => hN)
  have hn' : (N : Int) ≤ 10000 := by omega
  clear hu hN
  unfold OutY
  go_enter Try.func12, Try.ntmps12
  go_wp2_with fail
  go_loopw [4, 3] (fun iv sv wr => ∃ i : Nat, i ≤ N ∧ iv = .int .i64 (i : Int) ∧ Hid (Below w.heap.size w wr) ∧ Hid (OwnR encY 58 3 wr w.heap.size sv (es.take i))) (fun iv _ _ => N - (intOf iv).toNat)
  case atStart => exact ⟨0, by omega, rfl, hid (Below.refl _ _), OwnR.nil _ _ _ _ _⟩
  case round =>
    obtain ⟨i, hi, rfl, HB, HO⟩ := hrel
    by_cases hlt : i < N
    · obtain ⟨hx, sb, so, rfl, hsb, hcell⟩ := RowAt.pos layY (HU.out wr HB.out) i hlt
      have HSO : Hid (∀ x' : Nx w, x'.w.cell? ⟨sb, so + i * 3, none⟩ = some (.int .i64 es[i].1) ∧ x'.w.cell? ⟨sb, so + i * 3 + 1, none⟩ = some (.int .i64 es[i].2.1) ∧ x'.w.cell? ⟨sb, so + i * 3 + 2, none⟩ = some (.int .i64 es[i].2.2)) := fun x' => by
        obtain ⟨hx, sb', so', he, -, hcell⟩ := RowAt.pos layY (HU.out x'.w x'.h) i hlt
        cases he
        exact ⟨hcell 0 _ rfl, hcell 1 _ rfl, hcell 2 _ rfl⟩
      have HTK : Hid (es.take (i + 1) = es.take i ++ [(es[i].1, es[i].2.1, es[i].2.2)]) := List.take_succ_eq_append_getElem hx
      have HLE : Hid ((es.take i).length + 1 = i + 1) := by rw [List.length_take]; exact hid (by omega)
      obtain ⟨p0, cap0, rfl⟩ := HO.out.form
      have hi0 : (es.take i).length = i := by rw [List.length_take]; omega
      rw [hi0] at HO ⊢
      clear hcell hi0
      generalize es.take i = xs at *
      generalize es[i].1 = X at *
      generalize es[i].2.1 = Y at *
      generalize es[i].2.2 = F at *
      have e2 : (i : Int) < (N : Int) := by omega
      have e3 : (0 : Int) ≤ (i : Int) := by omega
      go_upto_region 5 with (fail)
      have n6 : ∀ x' : Nx w, x'.w.cell? ⟨sb, so + i * 3, none⟩ = some (.int .i64 X) := fun x' => (HSO.out x').1
      have n7 : ∀ x' : Nx w, x'.w.cell? ⟨sb, so + i * 3 + 1, none⟩ = some (.int .i64 Y) := fun x' => (HSO.out x').2.1
      have n8 : ∀ x' : Nx w, x'.w.cell? ⟨sb, so + i * 3 + 2, none⟩ = some (.int .i64 F) := fun x' => (HSO.out x').2.2
      have HBD : Hid (Below w.heap.size w wr.drew) := Below.drewN HB.out 1
      have HOD : Hid (OwnR encY 58 3 wr.drew w.heap.size (.slice p0 i cap0) xs) := HO.out.stay fun _ _ => rfl
      obtain ⟨P0, hP0⟩ : ∃ P0, P0 = wr.drew := ⟨_, rfl⟩
      refine wp_region_calm (S := fun w' => ∃ x : Nx w, w' = x.w) [(0, false), (1, false), (2, false), (3, false), (4, false), (5, false), (6, false), (7, false), (8, false), (9, false), (10, false), (11, false), (12, true), (13, true), (14, false)] (by kernel_rfl) (by kernel_rfl) rfl (by kernel_rfl) ⟨⟨wr.drew, HBD.out⟩, rfl⟩ ?_
      rw [← hP0] at HBD HOD ⊢
      clear hP0 HO HB
      repeat (refine plan_take rfl (fun K hK => ?_); go_simp; refine ⟨_, fun _ => rfl, hK _ ?_⟩; clear hK K)
      refine plan_turn rfl (fun K hK => ?_)
      go_simp
      obtain ⟨U, hU⟩ : ∃ U, U = P0.alloc (.cells #[Value.int .i64 X, .int .i64 Y, .int .i64 F] 58) := ⟨_, rfl⟩
      have HUB : Hid (Below P0.heap.size P0 U) := by rw [hU]; exact (Below.refl _ _).alloc (Nat.le_refl _) _
      have HUG : Hid (RowAt encY 3 U (.slice (some ⟨P0.heap.size, 0, none⟩) 1 1) [(X, Y, F)]) := by rw [hU]; exact RowAt.one _ _ _ _ rfl
      have HBU := hid (HBD.out.trans (HUB.out.mono HBD.out.size))
      have HOU := hid (HOD.out.below HUB.out)
      rw [← hU]
      refine hK _ _ ⟨⟨U, HBU.out⟩, rfl⟩ ?_
      clear hK K hU HUB HBD HOD n6 n7 n8
      refine plan_turn rfl (fun K hK => ?_)
      rw [if_pos (by rfl)]
      refine turn_of_list (ops := #[]) rfl ?_
      refine wpL_appendR layY Try.underlying35 info58 rfl (by omega) w.heap.size (.slice p0 i cap0) (.slice (some ⟨P0.heap.size, 0, none⟩) 1 1) xs [(X, Y, F)] (i + 1) (by simp) HLE.out rfl rfl HOU.out HUG.out (by omega) HBU.out.size ?_
      intro p5 c5 w4 ho4 hg4
      have HB5 := hid (HBU.out.trans (hg4.belowR HOU.out HBU.out.size))
      rw [← HTK.out] at ho4
      have HO5 := hid ho4
      clear ho4 hg4
      refine ⟨rfl, hK _ _ ⟨⟨w4, HB5.out⟩, rfl⟩ ?_⟩
      clear hK K
      simp only [Act.put, List.setIfInBounds_toArray, List.set_cons_zero, List.set_cons_succ]
      (refine plan_take rfl (fun K hK => ?_); go_simp; refine ⟨_, fun _ => rfl, hK _ ?_⟩; clear hK K)
      refine plan_done ⟨rfl, ?_⟩
      go_wp2
      exact ⟨⟨i + 1, by omega, by simp, HB5, HO5⟩, by simp [intOf]; omega⟩
    · obtain rfl : i = N := by omega
      have ht : es.take i = es := by rw [HN.out 0, List.take_length]
      rw [ht] at HO
      go_wp2
      go_ret
      exact ⟨_, rfl, HO.out, HB.out⟩
end Go.Proofs.Yteijncfnifebjaa
