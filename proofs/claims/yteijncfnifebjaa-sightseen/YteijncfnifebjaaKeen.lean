/- keenest 27. -/
import Derived.Test.YteijncfnifebjaaKeenP
namespace Go.Proofs.Yteijncfnifebjaa
open Go.RowKit
theorem turn_one (w : World) (b k : Nat) (x : Value) : Turn b w (w.setCell ⟨b, k, none⟩ x) := by
  refine ⟨rfl, rfl, rfl, by simp, fun j hj => ?_⟩
  rw [Below.heap_setCell _ _ _ _ hj]
set_option maxRecDepth 20000 in
set_option maxHeartbeats 8000000 in
theorem keenest_any (m : Mp) (v u : Value) (es : List (Int × Int × Int)) (w : World) (hm : MapAt w v m) (hu : RowAt encY 3 w u es) (hn : es.length ≤ 10000) : Calls Try.prog 27 #[v, u] w fun e w' => OutY 48 w (keenTo m es es.length) e w' := by
  have h31 : Hid (∀ x y W v, MapAt W v m → Calls Try.prog 31 #[v, C x y] W fun e w' => Out W (.bool (formed m && holds m x y)) e w') := fun x y W v h => inside_any m v x y W h
  have HM := hid (fun W (h : Below w.heap.size w W) => hm.below h)
  have HU := hid (fun W (h : Below w.heap.size w W) => hu.below h)
  have HKS := hid (keenTo_succ m es)
  have HKL := hid (keenTo_length m es)
  have HST : Hid (∀ ks e, kstep m ks e = match idxY ks (atY e) with | some i => ks.set i (e.1, e.2.1, max (ks.getD i (0, 0, 0)).2.2 e.2.2) | none => if (formed m && holds m e.1 e.2.1) = true then ks ++ [e] else ks) := fun _ _ => rfl
  have HK0 : Hid (keenTo m es 0 = []) := rfl
  obtain ⟨N, hN⟩ : ∃ N, N = es.length := ⟨_, rfl⟩
  obtain ⟨pe, ce, rfl⟩ := hu.form
  rw [← hN] at HU hn HKL ⊢
  have HN := hid (fun (_ : Nat) => hN)
  have hn' : (N : Int) ≤ 10000 := by omega
  generalize keenTo m es = kt at *
  generalize hst : kstep m = st at *
  clear hst
  obtain ⟨p, c, q, d, rfl, -, -⟩ := hm
  unfold OutY
  obtain ⟨a, b, ts, os⟩ := m
  simp only at HM ⊢
  generalize ts.length = M at *
  generalize os.length = O at *
  clear hu hn hN
  unfold C at *
  have hmm := @run_makeMap Try.prog
  go_enter Try.func27, Try.ntmps27
  go_upto_region 3 with fail
  obtain ⟨W, hW⟩ : ∃ W, W = (w.alloc (.cells #[Value.int .i64 a, .int .i64 b, .slice p M c, .slice q O d] 24)).alloc (.map #[] 0) := ⟨_, rfl⟩
  obtain ⟨B, hB⟩ : ∃ B, B = w.heap.size := ⟨_, rfl⟩
  rw [← hW, ← hB]
  have hsz : W.heap.size = B + 2 := by rw [hW, hB]; simp
  have HBE : Hid (∀ w', Below (B + 1) W w' → Below w.heap.size w w') := by
    intro w' h
    have h1 : Below w.heap.size w W := by rw [hW]; exact ((Below.refl _ _).alloc (Nat.le_refl _) _).alloc (by simp) _
    exact h1.trans (h.mono (by omega))
  have hbk : Blk W B [Value.int .i64 a, .int .i64 b, .slice p M c, .slice q O d] 24 := by rw [hW, hB]; exact (Blk.new _ _ _).alloc _
  have HK : Hid (∀ w', Below (B + 1) W w' → w'.cell? ⟨B, 0, none⟩ = some (.int .i64 a) ∧ w'.cell? ⟨B, 1, none⟩ = some (.int .i64 b) ∧ w'.cell? ⟨B, 2, none⟩ = some (.slice p M c) ∧ w'.cell? ⟨B, 3, none⟩ = some (.slice q O d)) := fun w' h => by
    have := hbk.below h (by omega)
    exact ⟨this.cell 0, this.cell 1, this.cell 2, this.cell 3⟩
  have HF0 : Hid (FMap W (B + 1) (idxF (kt 0))) := by
    have := FMap.new (w.alloc (.cells #[Value.int .i64 a, .int .i64 b, .slice p M c, .slice q O d] 24))
    rw [← hW] at this
    simp only [World.size_alloc] at this
    rw [← hB] at this
    rw [HK0.out]
    exact this
  have HO0 : Hid (OwnR encY 48 3 W (B + 2) (.slice none 0 0) (kt 0)) := by rw [HK0.out]; exact OwnR.nil _ _ _ _ _
  have HB0 := hid (Below.refl (B + 1) W)
  have HBe := hid (fun (_ : Nat) => hB)
  have hszW := hid (fun (_ : Nat) => hsz)
  clear hW hB hbk hmm hsz HK0
  go_wp2_with fail
  go_loopw [14, 5] (fun iv sv wr => ∃ i : Nat, i ≤ N ∧ iv = .int .i64 (i : Int) ∧ Hid (Below (B + 1) W wr) ∧ Hid (OwnR encY 48 3 wr (B + 2) sv (kt i)) ∧ Hid (FMap wr (B + 1) (idxF (kt i)))) (fun iv _ _ => N - (intOf iv).toNat)
  case atStart => exact ⟨0, by omega, rfl, HB0, HO0, HF0⟩
  case round =>
    clear HB0 HO0 HF0
    obtain ⟨i, hi, rfl, HB, HO, HF⟩ := hrel
    by_cases hlt : i < N
    · obtain ⟨hx, sb, so, rfl, hsb, hcell⟩ := RowAt.pos layY (HU.out wr (HBE.out wr HB.out)) i hlt
      have c0 : wr.cell? ⟨sb, so + i * 3, none⟩ = some (.int .i64 es[i].1) := hcell 0 _ rfl
      have c1 : wr.cell? ⟨sb, so + i * 3 + 1, none⟩ = some (.int .i64 es[i].2.1) := hcell 1 _ rfl
      have c2 : wr.cell? ⟨sb, so + i * 3 + 2, none⟩ = some (.int .i64 es[i].2.2) := hcell 2 _ rfl
      have hks := hid (HKS.out i (by have := HN.out 0; omega))
      have hkl := hid (HKL.out i (by omega))
      obtain ⟨X, hX⟩ : ∃ X, X = es[i].1 := ⟨_, rfl⟩
      obtain ⟨Y, hY⟩ : ∃ Y, Y = es[i].2.1 := ⟨_, rfl⟩
      obtain ⟨F, hF⟩ : ∃ F, F = es[i].2.2 := ⟨_, rfl⟩
      have he : es[i] = (X, Y, F) := by rw [hX, hY, hF]
      rw [← hX] at c0
      rw [← hY] at c1
      rw [← hF] at c2
      rw [he, HST.out] at hks
      clear hcell hX hY hF he
      have e2 : (i : Int) < (N : Int) := by omega
      have e3 : (0 : Int) ≤ (i : Int) := by omega
      obtain ⟨p0, cap0, rfl⟩ := HO.out.form
      go_upto_region 6 with (fail)
      obtain ⟨V, hV⟩ : ∃ V, V = wr.alloc (.cells #[Value.int .i64 X, .int .i64 Y, .int .i64 F] 48) := ⟨_, rfl⟩
      obtain ⟨g, hg⟩ : ∃ g, g = wr.heap.size := ⟨_, rfl⟩
      rw [← hV, ← hg]
      have HVB : Hid (Below g wr V) := by rw [hV, hg]; exact (Below.refl _ _).alloc (Nat.le_refl _) _
      have HE : Hid (Blk V g [Value.int .i64 X, .int .i64 Y, .int .i64 F] 48) := by rw [hV]; exact Blk.new' _ _ _ _ hg
      have hgB : B + 2 ≤ g := by have := HB.out.size; have := hszW.out 0; omega
      have HBX : Hid (Below (B + 1) W V) := HB.out.trans (HVB.out.mono (by omega))
      have HOX := hid (HO.out.below (by rw [← hg]; exact HVB.out))
      have HFX := hid (HF.out.below HVB.out (by omega))
      have HVS : Hid (V.heap.size = g + 1) := by rw [hV, hg]; exact hid (by simp)
      have HGS : Hid (∀ k, (Value.slice p0 (kt i).length cap0).ownBlock = some k → k < g) := by rw [hg]; exact fun k hk => (HO.out.block k hk).2
      clear hV hg c0 c1 c2 hsb HVB HB HO HF
      have g0 : V.cell? ⟨g, 0, none⟩ = some (.int .i64 X) := HE.out.cell 0
      have g1 : V.cell? ⟨g, 1, none⟩ = some (.int .i64 Y) := HE.out.cell 1
      have g2 : V.cell? ⟨g, 2, none⟩ = some (.int .i64 F) := HE.out.cell 2
      generalize hki : kt i = ks at *
      cases hix : idxY ks (X, Y) with
      | some j =>
        have hix' : idxF ks (X, Y) = some (.int .i64 (j : Int)) := by unfold idxF; rw [hix]; rfl
        obtain ⟨hj, hat⟩ := idxY_some hix
        have hkn : kt (i + 1) = ks.set j (X, Y, max (ks.getD j (0, 0, 0)).2.2 F) := by
          have := hks.out
          rw [show atY (X, Y, F) = (X, Y) from rfl, hix] at this
          exact this
        rw [List.getD_eq_getElem?_getD, List.getElem?_eq_getElem hj, Option.getD_some] at hkn
        obtain ⟨hj', G, rfl, hG1, hG2, hG3, hG4⟩ := OwnR.at layY HOX.out j hj
        have k2 : V.cell? ⟨G, j * 3 + 2, none⟩ = some (.int .i64 ks[j].2.2) := hG4 2 _ rfl
        have k2f := hG3 (j * 3 + 2)
        have e4 : (j : Int) < (ks.length : Int) := by omega
        have e5 : (0 : Int) ≤ (j : Int) := by omega
        have HGG : Hid (G < g) := HGS.out G rfl
        have HOS : Hid (∀ u, u = .int .i64 (max ks[j].2.2 F) → OwnR encY 48 3 (V.setCell ⟨G, j * 3 + 2, none⟩ u) (B + 2) (.slice (some ⟨G, 0, none⟩) ks.length cap0) (kt (i + 1))) := by
          rintro u rfl
          rw [hkn]
          exact OwnR.set layY HOX.out j hj 2 (by omega) _ _ (by
            have e1 : (ks[j].1, ks[j].2.1) = (X, Y) := hat
            simp only [Prod.mk.injEq] at e1
            rw [← e1.1, ← e1.2]; rfl)
        have HFS : Hid (idxF ks = idxF (kt (i + 1))) := by
          rw [hkn]
          funext c
          unfold idxF
          rw [idxY_set hix]
        have HKLn : Hid ((kt (i + 1)).length = ks.length) := by rw [hkn]; exact hid (by simp)
        clear hkn hat hG4 hix
        generalize ks[j].2.2 = F0 at *
        generalize ks.length = L at *
        go_wp2_with (at_lookup; (with_reducible refine wpL_look2 3 Try.underlying65 (.int .i64 0) zero3 (B + 1) (idxF ks) X Y ?_ ?_ HFX.out ?_); (rfl); (rfl); (rw [hix', Option.isSome_some, Option.getD_some]))
        go_upto_region 8 with fail
        go_still_tail 12, (by kernel_rfl)
        have hmx : (if F0 < F then F else F0) = max F0 F := by split <;> omega
        have HMX := hid (fun (_ : Nat) => hmx)
        clear hmx
        go_wp2
        rw [HMX.out 0]
        have hO9 := (HOS.out (.int .i64 (max F0 F)) rfl)
        have ht9 := turn_one V G (j * 3 + 2) (.int .i64 (max F0 F))
        have hF9 : FMap (V.setCell ⟨G, j * 3 + 2, none⟩ (.int .i64 (max F0 F))) (B + 1) (idxF (kt (i + 1))) := by
          rw [← HFS.out]
          exact HFX.out.keep (ht9.block _ (by omega))
        have hB9 := HBX.out.trans (ht9.below (B := B + 1) (by omega))
        rw [← HKLn.out]
        rw [← HKLn.out] at hO9
        refine ⟨⟨i + 1, by omega, by simp, hid ⟨hB9.os, hB9.tape, hB9.output, hB9.size, hB9.block⟩, ?_, hid (hF9.keep rfl)⟩, by simp [intOf]; omega⟩
        exact hO9.stay fun _ _ => rfl
      | none =>
        have hix' : idxF ks (X, Y) = none := by unfold idxF; rw [hix]; rfl
        obtain ⟨IN, hIN⟩ : ∃ z, z = (formed ⟨a, b, ts, os⟩ && holds ⟨a, b, ts, os⟩ X Y) := ⟨_, rfl⟩
        have hkn : kt (i + 1) = if IN = true then ks ++ [(X, Y, F)] else ks := by
          have := hks.out
          rw [show atY (X, Y, F) = (X, Y) from rfl, hix] at this
          simp only at this
          rw [← hIN] at this
          exact this
        have H31 := hid (fun W v h => h31.out X Y W v h)
        rw [← hIN] at H31
        clear hIN hks h31
        obtain ⟨a0, a1, a2, a3⟩ := HK.out V HBX.out
        go_wp2_with (at_lookup; (with_reducible refine wpL_look2 3 Try.underlying65 (.int .i64 0) zero3 (B + 1) (idxF ks) X Y ?_ ?_ HFX.out ?_); (rfl); (rfl); (rw [hix', Option.isSome_none]))
        refine Calls.mono (H31.out _ _ (HM.out _ (HBE.out _ HBX.out))) ?_
        rintro e w3 ⟨rfl, hb3⟩
        have HB3 : Hid (Below (B + 1) W w3) := HBX.out.trans (hb3.mono (by have := HVS.out; omega))
        have HO3 := hid (HOX.out.below hb3)
        have HF3 := hid (HFX.out.below hb3 (by have := HVS.out; omega))
        have HE3 := hid (HE.out.below hb3 (by have := HVS.out; omega))
        have hs3 := hb3.size
        rw [HVS.out] at hs3
        have HS3 := hid hs3
        clear hb3 hs3 a0 a1 a2 a3 g0 g1 g2 HOX HFX HE HVS H31
        rcases IN with _ | _
        · rw [if_neg Bool.false_ne_true] at hkn
          have HOn : Hid (OwnR encY 48 3 w3 (B + 2) (.slice p0 ks.length cap0) (kt (i + 1))) := by rw [hkn]; exact HO3
          have HFn : Hid (FMap w3 (B + 1) (idxF (kt (i + 1)))) := by rw [hkn]; exact HF3
          clear hkn hki hix hix' HO3 HF3
          generalize ks.length = L at *
          go_wp2
          exact ⟨⟨i + 1, by omega, by simp, HB3, HOn, HFn⟩, by simp [intOf]; omega⟩
        · rw [if_pos rfl] at hkn
          have HKN : Hid (kt (i + 1) = ks ++ [(X, Y, F)]) := hkn
          have HFN : Hid (putF (idxF ks) (X, Y) (.int .i64 (ks.length : Int)) = idxF (kt (i + 1))) := by
            rw [hkn]
            exact (idxF_append (e := (X, Y, F)) hix).symm
          have HLE : Hid (ks.length + 1 = (kt (i + 1)).length) := by rw [hkn]; exact hid (by simp)
          have g0 : w3.cell? ⟨g, 0, none⟩ = some (.int .i64 X) := HE3.out.cell 0
          have g1 : w3.cell? ⟨g, 1, none⟩ = some (.int .i64 Y) := HE3.out.cell 1
          have g2 : w3.cell? ⟨g, 2, none⟩ = some (.int .i64 F) := HE3.out.cell 2
          have hkl' : ks.length ≤ 10000 := by have := hkl.out; omega
          clear hkn hix hix' hki
          obtain ⟨L, hL⟩ : ∃ L, L = ks.length := ⟨_, rfl⟩
          rw [← hL] at HO3 HFN HLE hkl' ⊢
          have HL := hid (fun (_ : Nat) => hL)
          clear hL
          go_upto_region 11 with (at_mapUpdate; (with_reducible refine wpL_upd 3 Try.underlying65 (B + 1) (idxF ks) X Y (.int .i64 (L : Int)) ?_ ?_ ?_ ?_ ?_); (rfl); (rfl); (rfl); (exact HF3.out); (intro w4 hf4 ht4); (rw [HFN.out] at hf4))
          have HB4 : Hid (Below (B + 1) W w4) := HB3.out.trans (ht4.below (Nat.le_refl _))
          have HO4 : Hid (OwnR encY 48 3 w4 (B + 2) (.slice p0 L cap0) ks) := HO3.out.stay fun j hj => ht4.block j (by have := (HO3.out.block j hj).1; omega)
          have HE4 : Hid (Blk w4 g [.int .i64 X, .int .i64 Y, .int .i64 F] 48) := by
            have := HE3.out
            unfold Blk at this ⊢
            rw [ht4.block g (by omega)]; exact this
          have HS4 : Hid (g + 1 ≤ w4.heap.size) := by rw [ht4.size]; exact HS3
          have HF4 := hid hf4
          clear hf4 ht4 HB3 HO3 HF3 HE3 HS3 g0 g1 g2 HFN
          have g0 : w4.cell? ⟨g, 0, none⟩ = some (.int .i64 X) := HE4.out.cell 0
          have g1 : w4.cell? ⟨g, 1, none⟩ = some (.int .i64 Y) := HE4.out.cell 1
          have g2 : w4.cell? ⟨g, 2, none⟩ = some (.int .i64 F) := HE4.out.cell 2
          obtain ⟨U, hU⟩ : ∃ U, U = w4.alloc (.cells #[Value.int .i64 X, .int .i64 Y, .int .i64 F] 48) := ⟨_, rfl⟩
          obtain ⟨gu, hgu⟩ : ∃ gu, gu = w4.heap.size := ⟨_, rfl⟩
          have HUB : Hid (Below w4.heap.size w4 U) := by rw [hU]; exact (Below.refl _ _).alloc (Nat.le_refl _) _
          have HUG : Hid (RowAt encY 3 U (.slice (some ⟨gu, 0, none⟩) 1 1) [(X, Y, F)]) := by rw [hU, hgu]; exact RowAt.one _ _ _ _ rfl
          have HBU : Hid (Below (B + 1) W U) := HB4.out.trans (HUB.out.mono (by have := HS4.out; omega))
          have HOU := hid (HO4.out.below HUB.out)
          have HFU := hid (HF4.out.below HUB.out (by have := HS4.out; omega))
          have HBS : Hid (B + 2 ≤ U.heap.size) := hid (by have := HUB.out.size; have := HS4.out; omega)
          rw [hU] at HUG HBU HOU HFU HBS
          rw [hgu] at HUG
          clear hU HUB hgu HKL HKS
          have HLN : Hid (ks.length + [(X, Y, F)].length = L + 1) := by rw [HL.out 0]; exact hid rfl
          go_wp2_with (first
            | ((with_reducible refine wpL_appendR layY Try.underlying25 info48 rfl (by omega) (B + 2) (.slice p0 L cap0) (.slice (some ⟨w4.heap.size, 0, none⟩) 1 1) ks [(X, Y, F)] (L + 1) (by simp) HLN.out ?_ ?_ HOU.out HUG.out (by omega) HBS.out ?_); (rfl); (rfl); (intro p5 c5 w5 ho5 hg5); (have HB5 := hid (HBU.out.trans ((hg5.belowR HOU.out HBS.out).mono (Nat.le_succ (B + 1)))); have hf5 := HFU.out.keep (hg5.block (B + 1) HFU.out.lt (fun he => by have := (HOU.out.block _ he).1; omega)); have HF5 := hid hf5; rw [← HKN.out] at ho5; have HO5 := hid ho5; clear ho5 hg5 hf5); (simp only [Act.put, List.setIfInBounds_toArray, List.set_cons_zero, List.set_cons_succ])))
          rw [HLE.out] at HO5
          rw [HLE.out]
          exact ⟨⟨i + 1, by omega, by simp, HB5, HO5, HF5⟩, by simp [intOf]; omega⟩
    · obtain rfl : i = N := by omega
      go_wp2
      go_ret
      exact ⟨_, rfl, HO.out.mono (by have := HBe.out 0; omega), HBE.out _ HB.out⟩
end Go.Proofs.Yteijncfnifebjaa
