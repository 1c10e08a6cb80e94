/- The reference: who is visible to some eyes, visible 28. -/
import Derived.Test.YteijncfnifebjaaVis
import Derived.Test.YteijncfnifebjaaRefE
import Derived.Test.YteijncfnifebjaaRefL
namespace Go.Proofs.Yteijncfnifebjaa
open Go.RowKit
set_option maxHeartbeats 4000000 in
theorem refVisible_any (m : Mp) (v u : Value) (x y : Int) (es : List (Int × Int × Int)) (w : World) (hm : MapAt w v m) (hu : RowAt encY 3 w u es) (hn : es.length ≤ 1000000) (hf : formed m = true) : Calls Try.prog 28 #[v, C x y, u] w fun e w' => Out w (.bool (vis m es x y)) e w' := by
  have h29 : Hid (∀ a b W, Calls Try.prog 21 #[C a b, C x y] W fun e w' => Out W (.int .i64 (dist a b x y)) e w') := fun a b W => refDist_any a b x y W
  have h30 : Hid (∀ a b W v, MapAt W v m → Calls Try.prog 34 #[v, C a b, C x y] W fun e w' => Out W (.bool (sees m a b x y)) e w') := fun a b W v h => refClear_any refLine_any m v a b x y W h hf
  have HM := hid (fun W (h : Below w.heap.size w W) => hm.below h)
  have HU := hid (fun W (h : Below w.heap.size w W) => hu.below h)
  obtain ⟨N, hN⟩ : ∃ N, N = es.length := ⟨_, rfl⟩
  obtain ⟨pe, ce, rfl⟩ := hu.form
  rw [← hN] at HU hn ⊢
  have HV1 : Hid (∀ i (hi : i < es.length), (decide (dist es[i].1 es[i].2.1 x y ≤ es[i].2.2) && sees m es[i].1 es[i].2.1 x y) = vis1 m x y es[i]) := fun i hi => rfl
  have HVS : Hid (∀ i (hi : i < es.length), (es.take (i + 1)).any (vis1 m x y) = ((es.take i).any (vis1 m x y) || vis1 m x y es[i])) := fun i hi => any_take_succ _ _ _ hi
  have HVH : Hid (∀ i (hi : i < es.length), vis1 m x y es[i] = true → vis m es x y = true) := fun i hi h => any_hit _ _ _ hi h
  have HVE : Hid (vis m es x y = (es.take N).any (vis1 m x y)) := by rw [hN, List.take_length]; rfl
  have HN := hid (fun (_ : Nat) => hN)
  have hn' : (N : Int) ≤ 1000000 := by omega
  unfold Out
  generalize vis m es x y = R at *
  generalize hds : (fun a b => dist a b x y) = DS
  have HDS := hid (fun a b => congrFun (congrFun hds a) b)
  clear hds
  obtain ⟨p, c, q, d, rfl, -, -⟩ := hm
  obtain ⟨a, b, ts, os⟩ := m
  simp only at HM ⊢
  generalize ts.length = M at *
  generalize os.length = O at *
  clear hN hu hn hf
  unfold C at *
  go_enter Try.func28, Try.ntmps28
  go_upto_region 1 with (fail)
  obtain ⟨W, hW⟩ : ∃ W, W = (w.alloc (.cells #[Value.int .i64 a, .int .i64 b, .slice p M c, .slice q O d] 24)).alloc (.cells #[Value.int .i64 x, .int .i64 y] 27) := ⟨_, rfl⟩
  obtain ⟨B, hB⟩ : ∃ B, B = w.heap.size := ⟨_, rfl⟩
  rw [← hW, ← hB]
  obtain ⟨hk, hbe⟩ := map_cell_box w a b _ _ x y W B hW hB
  have HK := hid hk
  have HBE := hid hbe
  clear hW hB hk hbe
  go_wp2_with fail
  go_loopw [7] (fun iv wr => ∃ i : Nat, i ≤ N ∧ iv = .int .i64 (i : Int) ∧ Hid (Below W.heap.size W wr) ∧ Hid ((es.take i).any (vis1 ⟨a, b, ts, os⟩ x y) = false)) (fun iv _ => N - (intOf iv).toNat)
  case atStart => exact ⟨0, by omega, rfl, hid (Below.refl _ _), rfl⟩
  case round =>
    obtain ⟨i, hi, rfl, HBV, HCL⟩ := hrel
    by_cases hlt : i < N
    · obtain ⟨hx, sb, so, rfl, hsb, hcell⟩ := RowAt.pos layY (HU.out wr (HBE.out wr HBV.out)) i hlt
      have c0 : wr.cell? ⟨sb, so + i * 3, none⟩ = some (.int .i64 es[i].1) := hcell 0 _ rfl
      have c1 : wr.cell? ⟨sb, so + i * 3 + 1, none⟩ = some (.int .i64 es[i].2.1) := hcell 1 _ rfl
      have c2 : wr.cell? ⟨sb, so + i * 3 + 2, none⟩ = some (.int .i64 es[i].2.2) := hcell 2 _ rfl
      have hv1 := hid (HV1.out i hx)
      have hvs := hid (HVS.out i hx)
      have hvh := hid (HVH.out i hx)
      have HD := hid (HDS.out es[i].1 es[i].2.1)
      clear hcell HV1 HVS HVH
      generalize vis1 ⟨a, b, ts, os⟩ x y es[i] = V1 at *
      generalize es[i].1 = X at *
      generalize es[i].2.1 = Y at *
      generalize es[i].2.2 = F at *
      have e2 : (i : Int) < (N : Int) := by omega
      have e3 : (0 : Int) ≤ (i : Int) := by omega
      have H29 := hid (fun W => h29.out X Y W)
      have H30 := hid (fun W v h => h30.out X Y W v h)
      clear HDS
      generalize dist X Y x y = D at *
      generalize sees ⟨a, b, ts, os⟩ X Y x y = S at *
      have HNE : Hid (∀ x' : Nx wr, x'.w.cell? ⟨sb, so + i * 3, none⟩ = some (.int .i64 X) ∧ x'.w.cell? ⟨sb, so + i * 3 + 1, none⟩ = some (.int .i64 Y) ∧ x'.w.cell? ⟨sb, so + i * 3 + 2, none⟩ = some (.int .i64 F)) := fun x' => by
        rw [x'.h.cell (p := ⟨sb, so + i * 3, none⟩) hsb, x'.h.cell (p := ⟨sb, so + i * 3 + 1, none⟩) hsb, x'.h.cell (p := ⟨sb, so + i * 3 + 2, none⟩) hsb]
        exact ⟨c0, c1, c2⟩
      have HBX := HBV
      go_upto_region 4 with (fail)
      clear c0 c1 c2
      have n0 : ∀ x' : Nx wr, x'.w.cell? ⟨B, 0, none⟩ = some (.int .i64 a) := fun x' => (HK.out x'.w (HBX.out.trans (x'.h.mono HBX.out.size))).1
      have n1 : ∀ x' : Nx wr, x'.w.cell? ⟨B, 1, none⟩ = some (.int .i64 b) := fun x' => (HK.out x'.w (HBX.out.trans (x'.h.mono HBX.out.size))).2.1
      have n2 : ∀ x' : Nx wr, x'.w.cell? ⟨B, 2, none⟩ = some (.slice p M c) := fun x' => (HK.out x'.w (HBX.out.trans (x'.h.mono HBX.out.size))).2.2.1
      have n3 : ∀ x' : Nx wr, x'.w.cell? ⟨B, 3, none⟩ = some (.slice q O d) := fun x' => (HK.out x'.w (HBX.out.trans (x'.h.mono HBX.out.size))).2.2.2.1
      have n4 : ∀ x' : Nx wr, x'.w.cell? ⟨B + 1, 0, none⟩ = some (.int .i64 x) := fun x' => (HK.out x'.w (HBX.out.trans (x'.h.mono HBX.out.size))).2.2.2.2.1
      have n5 : ∀ x' : Nx wr, x'.w.cell? ⟨B + 1, 1, none⟩ = some (.int .i64 y) := fun x' => (HK.out x'.w (HBX.out.trans (x'.h.mono HBX.out.size))).2.2.2.2.2
      have n6 : ∀ x' : Nx wr, x'.w.cell? ⟨sb, so + i * 3, none⟩ = some (.int .i64 X) := fun x' => (HNE.out x').1
      have n7 : ∀ x' : Nx wr, x'.w.cell? ⟨sb, so + i * 3 + 1, none⟩ = some (.int .i64 Y) := fun x' => (HNE.out x').2.1
      have n8 : ∀ x' : Nx wr, x'.w.cell? ⟨sb, so + i * 3 + 2, none⟩ = some (.int .i64 F) := fun x' => (HNE.out x').2.2
      have HMX : Hid (∀ x' : Nx wr, MapAt x'.w (.agg #[.int .i64 a, .int .i64 b, .slice p M c, .slice q O d]) ⟨a, b, ts, os⟩) := fun x' => HM.out _ (HBE.out _ (HBX.out.trans (x'.h.mono HBX.out.size)))
      have hne := Nx.some wr
      by_cases hD : D ≤ F
      · have hv2 := hv1.out
        rw [decide_eq_true hD, Bool.true_and] at hv2
        replace hv2 := hid hv2
        refine wp_region_nx (by kernel_rfl) (by kernel_rfl) ?_
        repeat (first
          | go_big_quiet_skip
          | (go_big_quiet_want; go_big_quiet_op; first
            | go_big_quiet_on
            | (apply Exists.intro
               refine ⟨fun x => ?_, ?_⟩
               · first
                 | (go_at_call 21; with_reducible exact nx_call x (H29.out _))
                 | (go_at_call 34; with_reducible exact nx_call x (H30.out _ _ (HMX.out x)))
               go_big_quiet_on)))
        refine wpQuiet_nil ?_
        rintro _ ⟨x', rfl⟩
        have HBV2 := hid (HBX.out.trans (x'.h.mono HBX.out.size))
        clear n0 n1 n2 n3 n4 n5 n6 n7 n8
        rcases S with _ | _
        · go_wp2
          exact ⟨⟨i + 1, by omega, by simp, HBV2, hid (by rw [hvs.out, HCL.out, ← hv2.out]; rfl)⟩, by simp [intOf]; omega⟩
        · have hR := hvh.out hv2.out.symm
          clear hv2 hv1
          subst hR
          go_wp2
          go_ret
          exact ⟨rfl, HBE.out _ HBV2.out⟩
      · have hD' : decide (D ≤ F) = false := decide_eq_false hD
        have hv2 := hv1.out
        rw [decide_eq_false hD, Bool.false_and] at hv2
        replace hv2 := hid hv2
        refine wp_region_nx (by kernel_rfl) (by kernel_rfl) ?_
        repeat (first
          | go_big_quiet_skip
          | (go_big_quiet_want; go_big_quiet_op; first
            | go_big_quiet_on
            | (apply Exists.intro
               refine ⟨fun x => ?_, ?_⟩
               · first
                 | (go_at_call 21; with_reducible exact nx_call x (H29.out _))
                 | (go_at_call 34; with_reducible exact nx_call x (H30.out _ _ (HMX.out x)))
               go_big_quiet_on)))
        refine wpQuiet_nil ?_
        rintro _ ⟨x', rfl⟩
        have HBV2 := hid (HBX.out.trans (x'.h.mono HBX.out.size))
        clear n0 n1 n2 n3 n4 n5 n6 n7 n8
        go_wp2
        exact ⟨⟨i + 1, by omega, by simp, HBV2, hid (by rw [hvs.out, HCL.out, ← hv2.out]; rfl)⟩, by simp [intOf]; omega⟩
    · obtain rfl : i = N := by omega
      have hR : R = false := by rw [HVE.out, HCL.out]
      subst hR
      go_wp2
      go_ret
      exact ⟨rfl, HBE.out _ HBV.out⟩
end Go.Proofs.Yteijncfnifebjaa
