/- Two blocks that are the same are found to be the same. -/
import Derived.Test.YtpiflgbcbhnmpaaSameS
import Derived.Test.YtpiflgbcbhnmpaaRblo
import Derived.Test.YtpiflgbcbhnmpaaLbk
import Derived.Test.YtpiflgbcbhnmpaaWrep
import Derived.Test.YtpiflgbcbhnmpaaWblo
/- Two blocks that are the same are found to be the same. -/
namespace Go.Proofs.Ytpiflgbcbhnmpaa
open Go.RowKit
attribute [local go_sem] eqGuard_D neqGuard_D
theorem SdsAt.at {w : World} {p : Option Addr} {N cap : Nat} {ds : List Sd} (h : SdsAt w (.slice p N cap) ds) (hN : N = ds.length) {i : Nat} (hi : i < N) :
    ∃ b o, p = some ⟨b, o, none⟩ ∧ ∀ d, ds[i]? = some d → ∃ (q : Option Addr) (c : Nat), (d.cells (.slice q d.cs.length c)).length = 37 ∧ ∀ W, Below w.heap.size w W → W.rangeAt b (o + i * 37) (d.cells (.slice q d.cs.length c)) ∧ CmdsAt W (.slice q d.cs.length c) d.cs := by
  obtain ⟨p', c', ess, he, hel, hmem, hrow⟩ := h
  simp at he
  obtain ⟨rfl, -, rfl⟩ := he
  obtain ⟨b, o, rfl, hc⟩ := hrow (by rintro rfl; simp at hN; omega)
  refine ⟨b, o, rfl, fun d hd => ?_⟩
  obtain ⟨E, hEi⟩ : ∃ E, ess[i]? = some E := ⟨_, List.getElem?_eq_getElem (by omega)⟩
  obtain ⟨hl, cv, rfl, hCm⟩ := hmem i d E hd hEi
  have hCm' := hCm
  obtain ⟨q, c, rfl, -⟩ := hCm'
  exact ⟨q, c, hl, fun W hW => ⟨fun j u hu => by rw [hW.cell (p := ⟨b, o + i * 37 + j, none⟩) (lt_of_cell (hc i _ hEi j u hu))]; exact hc i _ hEi j u hu, hCm.below hW⟩⟩
theorem bkL_d1 (t : Int) (a b c : List Value) (v : Value) : ((bkL t a b c v).drop 1).take a.length = a := by
  unfold bkL; simp
theorem bkL_d33 (t : Int) (a b c : List Value) (v : Value) (ha : a.length = 32) : ((bkL t a b c v).drop 33).take b.length = b := by
  unfold bkL
  rw [List.drop_succ_cons, List.drop_append, ha, List.drop_eq_nil_of_le (by omega)]
  simp
theorem bkL_d65 (t : Int) (a b c : List Value) (v : Value) (ha : a.length = 32) (hb : b.length = 32) : ((bkL t a b c v).drop 65).take c.length = c := by
  unfold bkL
  rw [List.drop_succ_cons, List.drop_append, ha, List.drop_eq_nil_of_le (by omega), List.nil_append, List.drop_append, hb, List.drop_eq_nil_of_le (by omega)]
  simp
set_option maxRecDepth 100000 in
set_option maxHeartbeats 4000000 in
theorem sameBlock41 (k : Bk) (hk : BkFit k) (p q : Option Addr) (N cap cap' : Nat) (w : World) (hN : N = k.ds.length) (h : SdsAt w (.slice p N cap) k.ds) (h' : SdsAt w (.slice q N cap') k.ds) (hsz : N < 1000000000) :
    Calls Try.prog 41 #[.agg (k.cells (.slice p N cap)).toArray, .agg (k.cells (.slice q N cap')).toArray] w fun e w' => e = .returned (.bool true) ∧ Below w.heap.size w w' := by
  obtain ⟨X, hX⟩ : ∃ X, X = k.cells (.slice p N cap) := ⟨_, rfl⟩
  obtain ⟨Y, hY⟩ : ∃ Y, Y = k.cells (.slice q N cap') := ⟨_, rfl⟩
  rw [← hX, ← hY]
  obtain ⟨W, hW⟩ : ∃ W, W = (w.alloc (.cells X.toArray 39)).alloc (.cells Y.toArray 39) := ⟨_, rfl⟩
  obtain ⟨B, hBB⟩ : ∃ B, B = w.heap.size := ⟨_, rfl⟩
  have hB : Blk W B X 39 := by rw [hW, hBB]; exact (Blk.new w X 39).alloc _
  have hC : Blk W (B + 1) Y 39 := by rw [hW, hBB]; exact Blk.new' _ Y 39 _ (by simp)
  have HBE : Hid (Below w.heap.size w W) := by rw [hW]; exact ((Below.refl _ _).alloc (Nat.le_refl _) _).alloc (by simp) _
  have H40 : Hid (∀ (d : Sd) (p q : Option Addr) (c c' : Nat) (U : World), d.tag.length = 32 → d.cs.length < 1000000000 → CmdsAt U (.slice p d.cs.length c) d.cs → CmdsAt U (.slice q d.cs.length c') d.cs → Calls Try.prog 40 #[.agg (d.cells (.slice p d.cs.length c)).toArray, .agg (d.cells (.slice q d.cs.length c')).toArray] U fun e w' => e = .returned (.bool true) ∧ Below U.heap.size U w') := fun d p q c c' U h1 h2 h3 h4 => sameSealed40 d h1 p q _ c c' U rfl h3 h4 h2
  have hp : (k.pv.map By).length = 32 := by rw [List.length_map]; exact hk.p
  have hr : (k.rt.map By).length = 32 := by rw [List.length_map]; exact hk.r
  have hs : (k.st.map By).length = 32 := by rw [List.length_map]; exact hk.s
  have r1 : Hid (W.rangeAt B 1 (k.pv.map By)) := hB.rangeD 1 _ (by rw [hX]; exact bkL_d1 _ _ _ _ _)
  have r2 : Hid (W.rangeAt B 33 (k.rt.map By)) := hB.rangeD 33 _ (by rw [hX]; exact bkL_d33 _ _ _ _ _ hp)
  have r3 : Hid (W.rangeAt B 65 (k.st.map By)) := hB.rangeD 65 _ (by rw [hX]; exact bkL_d65 _ _ _ _ _ hp hr)
  have s1 : Hid (W.rangeAt (B + 1) 1 (k.pv.map By)) := hC.rangeD 1 _ (by rw [hY]; exact bkL_d1 _ _ _ _ _)
  have s2 : Hid (W.rangeAt (B + 1) 33 (k.rt.map By)) := hC.rangeD 33 _ (by rw [hY]; exact bkL_d33 _ _ _ _ _ hp)
  have s3 : Hid (W.rangeAt (B + 1) 65 (k.st.map By)) := hC.rangeD 65 _ (by rw [hY]; exact bkL_d65 _ _ _ _ _ hp hr)
  have heq : ∀ (l : List Nat), l.length = 32 → ∀ W, (binOp .neq 36 (.agg (l.map By).toArray) (.agg (l.map By).toArray)).run Try.prog W = .ok (.bool false) W := fun l hl W => by rw [run_neq_D W l l hl hl]; simp
  have e1 := heq _ hk.p
  have e2 := heq _ hk.r
  have e3 := heq _ hk.s
  have i32 : (Try.prog.info? 36).map (·.size) = some 32 := by kernel_rfl
  have l1 : Hid ((Try.prog.info? 36).map (·.size) = some (k.pv.map By).length) := by show _ = _; rw [hp]; exact i32
  have l2 : Hid ((Try.prog.info? 36).map (·.size) = some (k.rt.map By).length) := by show _ = _; rw [hr]; exact i32
  have l3 : Hid ((Try.prog.info? 36).map (·.size) = some (k.st.map By).length) := by show _ = _; rw [hs]; exact i32
  have HK : Hid (∀ w', Below W.heap.size W w' → w'.cell? ⟨B, 97, none⟩ = some (.slice p N cap) ∧ w'.cell? ⟨B + 1, 97, none⟩ = some (.slice q N cap')) := fun w' hb =>
    ⟨((hB.below hb hB.lt).cell 97).trans (by rw [hX]; exact bkL_get97 _ _ _ _ _ hp hr hs), ((hC.below hb hC.lt).cell 97).trans (by rw [hY]; exact bkL_get97 _ _ _ _ _ hp hr hs)⟩
  have c0 := hB.cell 0
  have f0 := hC.cell 0
  rw [show X[0]? = some (.int .i64 k.tn) by rw [hX]; rfl] at c0
  rw [show Y[0]? = some (.int .i64 k.tn) by rw [hY]; rfl] at f0
  obtain ⟨c4, f4⟩ := HK.out W (Below.refl _ _)
  have HA := hid (h.below HBE.out)
  have HA' := hid (h'.below HBE.out)
  have HN := hid hN
  have HFT := hid hk.d
  obtain ⟨tn, pv, rt, st, ds⟩ := k
  simp only at *
  generalize pv.map By = T1 at *
  generalize rt.map By = T2 at *
  generalize st.map By = T3 at *
  clear h h' hN hB hC hX hY hk heq i32
  go_enter Try.func41, Try.ntmps41
  go_upto_region 1 with fail
  rw [← hW, ← hBB]
  clear hW hBB
  go_wp2_with (first
    | ((with_reducible refine wpL_loadG 36 B 1 T1 _ ?_ ?_ r1.out Try.underlying36 ?_ l1.out ?_); (go_simp); (rfl); (rfl); (simp only [Act.put, List.setIfInBounds_toArray, List.set_cons_zero, List.set_cons_succ]))
    | ((with_reducible refine wpL_loadG 36 (B + 1) 1 T1 _ ?_ ?_ s1.out Try.underlying36 ?_ l1.out ?_); (go_simp); (rfl); (rfl); (simp only [Act.put, List.setIfInBounds_toArray, List.set_cons_zero, List.set_cons_succ]))
    | ((with_reducible refine wpL_loadG 36 B 33 T2 _ ?_ ?_ r2.out Try.underlying36 ?_ l2.out ?_); (go_simp); (rfl); (rfl); (simp only [Act.put, List.setIfInBounds_toArray, List.set_cons_zero, List.set_cons_succ]))
    | ((with_reducible refine wpL_loadG 36 (B + 1) 33 T2 _ ?_ ?_ s2.out Try.underlying36 ?_ l2.out ?_); (go_simp); (rfl); (rfl); (simp only [Act.put, List.setIfInBounds_toArray, List.set_cons_zero, List.set_cons_succ]))
    | ((with_reducible refine wpL_loadG 36 B 65 T3 _ ?_ ?_ r3.out Try.underlying36 ?_ l3.out ?_); (go_simp); (rfl); (rfl); (simp only [Act.put, List.setIfInBounds_toArray, List.set_cons_zero, List.set_cons_succ]))
    | ((with_reducible refine wpL_loadG 36 (B + 1) 65 T3 _ ?_ ?_ s3.out Try.underlying36 ?_ l3.out ?_); (go_simp); (rfl); (rfl); (simp only [Act.put, List.setIfInBounds_toArray, List.set_cons_zero, List.set_cons_succ])))
  clear r1 r2 r3 s1 s2 s3 l1 l2 l3 e1 e2 e3 c0 f0 c4 f4 hp hr hs
  go_loopw [5] (fun iv wr => ∃ i : Nat, iv = .int .i64 (i : Int) ∧ i ≤ N ∧ Hid (Below W.heap.size W wr)) (fun iv _ => N - natOf iv)
  case atStart => exact ⟨0, rfl, by omega, Below.refl _ _⟩
  case round =>
    obtain ⟨i, rfl, hi, HB⟩ := hrel
    obtain ⟨c4, f4⟩ := HK.out wr HB.out
    by_cases hlt : i < N
    · obtain ⟨d, hdi⟩ : ∃ d, ds[i]? = some d := ⟨_, List.getElem?_eq_getElem (by have := HN.out; omega)⟩
      obtain ⟨b, o, rfl, hc⟩ := HA.out.at HN.out hlt
      obtain ⟨b', o', rfl, hc'⟩ := HA'.out.at HN.out hlt
      obtain ⟨q1, c1, hl1, h1⟩ := hc d hdi
      obtain ⟨q2, c2, hl2, h2⟩ := hc' d hdi
      obtain ⟨-, hd2, hd3⟩ := HFT.out d (List.mem_of_getElem? hdi)
      have hcall := hid (show ∀ U, Below W.heap.size W U → Calls Try.prog 40 #[.agg (d.cells (.slice q1 d.cs.length c1)).toArray, .agg (d.cells (.slice q2 d.cs.length c2)).toArray] U fun e w' => e = .returned (.bool true) ∧ Below U.heap.size U w' from fun U hU => H40.out d q1 q2 c1 c2 U hd2 hd3 (h1 U hU).2 (h2 U hU).2)
      have HG1 := hid (fun U hU => (h1 U hU).1)
      have HG2 := hid (fun U hU => (h2 U hU).1)
      have hz1 : (Try.prog.info? 47).map (·.size) = some (d.cells (.slice q1 d.cs.length c1)).length := by rw [hl1]; exact size47
      have hz2 : (Try.prog.info? 47).map (·.size) = some (d.cells (.slice q2 d.cs.length c2)).length := by rw [hl2]; exact size47
      have e2 : (i : Int) < (N : Int) := by omega
      have e3 : (0 : Int) ≤ (i : Int) := by omega
      generalize d.cells (.slice q1 d.cs.length c1) = E1 at *
      generalize d.cells (.slice q2 d.cs.length c2) = E2 at *
      clear hc hc' hdi hd2 hd3 h1 h2 hl1 hl2
      go_upto_region 6 with fail
      have n1 : ∀ x : Nx wr, x.w.cell? ⟨B, 97, none⟩ = some (.slice (some ⟨b, o, none⟩) N cap) := fun x => (HK.out x.w (HB.out.trans (x.h.mono HB.out.size))).1
      have n2 : ∀ x : Nx wr, x.w.cell? ⟨B + 1, 97, none⟩ = some (.slice (some ⟨b', o', none⟩) N cap') := fun x => (HK.out x.w (HB.out.trans (x.h.mono HB.out.size))).2
      have HR1 : Hid (∀ x, (∃ y : Nx wr, x = y.w) → x.rangeAt b (o + i * 37) E1) := by
        rintro _ ⟨y, rfl⟩
        exact HG1.out y.w (HB.out.trans (y.h.mono HB.out.size))
      have HR2 : Hid (∀ x, (∃ y : Nx wr, x = y.w) → x.rangeAt b' (o' + i * 37) E2) := by
        rintro _ ⟨y, rfl⟩
        exact HG2.out y.w (HB.out.trans (y.h.mono HB.out.size))
      have HBD : Hid (Below wr.heap.size wr wr.drew) := Below.drewN (Below.refl _ _) 1
      have HBU : Hid (Below W.heap.size W wr.drew) := Below.drewN HB.out 1
      refine wp_region_calm (S := fun w' => ∃ x : Nx wr, w' = x.w) [(0, false), (1, false), (2, false), (3, false), (4, false), (5, false), (6, false), (7, false), (8, false), (9, false), (10, true), (11, false)] (by kernel_rfl) (by kernel_rfl) rfl (by kernel_rfl) ⟨⟨wr.drew, HBD.out⟩, rfl⟩ ?_
      obtain ⟨U, hU⟩ : ∃ U, U = wr.drew := ⟨_, rfl⟩
      rw [← hU] at HBD HBU ⊢
      clear hU
      iterate 4 (refine plan_take rfl (fun K hK => ?_); go_simp; refine ⟨_, fun _ => rfl, hK _ ?_⟩; clear hK K)
      refine plan_takeY (v := .agg E1.toArray) rfl (by rfl) (yieldsIf_load_mid (by rfl) 47 _ rfl b (o + i * 37) (by go_simp) E1 _ HR1.out Try.underlying47 rfl hz1) ?_
      simp only [Act.put, List.setIfInBounds_toArray]
      try simp only [List.set_cons_zero, List.set_cons_succ]
      iterate 4 (refine plan_take rfl (fun K hK => ?_); go_simp; refine ⟨_, fun _ => rfl, hK _ ?_⟩; clear hK K)
      refine plan_takeY (v := .agg E2.toArray) rfl (by rfl) (yieldsIf_load_mid (by rfl) 47 _ rfl b' (o' + i * 37) (by go_simp) E2 _ HR2.out Try.underlying47 rfl hz2) ?_
      simp only [Act.put, List.setIfInBounds_toArray]
      try simp only [List.set_cons_zero, List.set_cons_succ]
      refine plan_turn rfl (fun K' hK => ?_)
      go_simp
      refine Calls.mono (hcall.out U HBU.out) ?_
      rintro _ w3 ⟨rfl, hb6⟩
      have HB6 := hid (HBD.out.trans (hb6.mono HBD.out.size))
      have HW6 := hid (HBU.out.trans (hb6.mono HBU.out.size))
      refine hK _ _ ⟨⟨w3, HB6.out⟩, rfl⟩ ?_
      clear hK K' hb6 n1 n2
      (refine plan_take rfl (fun K hK => ?_); go_simp; refine ⟨_, fun _ => rfl, hK _ ?_⟩; clear hK K)
      refine plan_done ⟨rfl, ?_⟩
      go_wp2
      go_roundw
      case rel => exact ⟨i + 1, by go_num, by omega, HW6⟩
      case measure => simp [natOf]; omega
    · obtain rfl : i = N := by omega
      have e2 : ((i : Int) < (i : Int)) = False := by simp
      go_wp2
      go_ret
      exact ⟨rfl, HBE.out.trans (HB.out.mono HBE.out.size)⟩
end Go.Proofs.Ytpiflgbcbhnmpaa
/- Two lists of the same blocks are found to be the same. -/
namespace Go.Proofs.Ytpiflgbcbhnmpaa
open Go.RowKit
/-- A list of blocks, wherever it lies. -/
def BksAt (w : World) (v : Value) (ks : List Bk) : Prop :=
  ∃ (p : Option Addr) (cap : Nat) (ess : List (List Value)), v = .slice p ks.length cap ∧ ess.length = ks.length ∧ (∀ (i : Nat) (k : Bk) (es : List Value), ks[i]? = some k → ess[i]? = some es → es.length = 98 ∧ ∃ cv, es = k.cells cv ∧ SdsAt w cv k.ds) ∧ (ks ≠ [] → ∃ b o, p = some ⟨b, o, none⟩ ∧ ∀ (i : Nat) (es : List Value), ess[i]? = some es → w.rangeAt b (o + i * 98) es)
theorem BksAt.below {w w' : World} {v : Value} {ks : List Bk} (h : BksAt w v ks) (hb : Below w.heap.size w w') : BksAt w' v ks := by
  obtain ⟨p, cap, ess, rfl, h1, h2, h3⟩ := h
  refine ⟨p, cap, ess, rfl, h1, fun i d es hd he => ?_, fun hn => ?_⟩
  · obtain ⟨a1, cv, a2, a3⟩ := h2 i d es hd he
    exact ⟨a1, cv, a2, a3.below hb⟩
  · obtain ⟨b, o, rfl, hc⟩ := h3 hn
    exact ⟨b, o, rfl, fun i es hi j u hu => by rw [hb.cell (p := ⟨b, o + i * 98 + j, none⟩) (lt_of_cell (hc i es hi j u hu))]; exact hc i es hi j u hu⟩
theorem BksLo.at {w : World} {base : Nat} {v : Value} {ks : List Bk} (h : BksLo w base v ks) : BksAt w v ks := by
  obtain ⟨p, cap, ess, rfl, h1, h2, h3⟩ := h
  refine ⟨p, cap, ess, rfl, h1, fun i d es hd he => ?_, fun hn => ?_⟩
  · obtain ⟨a1, q, c, a2, a3⟩ := h2 i d es hd he
    exact ⟨a1, _, a2, a3.at⟩
  · obtain ⟨b, o, rfl, -, hc⟩ := h3 hn
    exact ⟨b, o, rfl, hc⟩
theorem OwnK.at {w : World} {base : Nat} {v : Value} {ks : List Bk} (h : OwnK w base v ks) : BksAt w v ks := by
  obtain ⟨ess, h1, h2, h3⟩ := h
  have hm : ∀ (i : Nat) (d : Bk) (es : List Value), ks[i]? = some d → ess[i]? = some es → es.length = 98 ∧ ∃ cv, es = d.cells cv ∧ SdsAt w cv d.ds := fun i d es hd he => by
    obtain ⟨a1, cv, a2, a3⟩ := h3 i d es hd he
    exact ⟨a1, cv, a2, a3.at⟩
  have hl : ∀ es ∈ ess, es.length = 98 := fun es hes => by
    obtain ⟨i, hi⟩ := List.getElem?_of_mem hes
    have hlt : i < ks.length := by have := (List.getElem?_eq_some_iff.1 hi).1; omega
    exact (hm i _ es (List.getElem?_eq_getElem hlt) hi).1
  obtain ⟨_, ⟨rfl, hn⟩ | ⟨g, cap, cur, rfl, hg, hh, hc, hmx, hcs, ht⟩⟩ := h2
  · exact ⟨none, 0, ess, by rw [hn], h1, hm, fun hne => absurd (List.eq_nil_of_length_eq_zero hn) hne⟩
  · exact ⟨_, cap, ess, rfl, h1, hm, fun _ => ⟨g, 0, rfl, fun i es hi => row_range hh ht hl i es hi⟩⟩
theorem BksAt.at {w : World} {p : Option Addr} {N cap : Nat} {ks : List Bk} (h : BksAt w (.slice p N cap) ks) (hN : N = ks.length) {i : Nat} (hi : i < N) :
    ∃ b o, p = some ⟨b, o, none⟩ ∧ ∀ k, ks[i]? = some k → ∃ (q : Option Addr) (c : Nat), (k.cells (.slice q k.ds.length c)).length = 98 ∧ ∀ W, Below w.heap.size w W → W.rangeAt b (o + i * 98) (k.cells (.slice q k.ds.length c)) ∧ SdsAt W (.slice q k.ds.length c) k.ds := by
  obtain ⟨p', c', ess, he, hel, hmem, hrow⟩ := h
  simp at he
  obtain ⟨rfl, -, rfl⟩ := he
  obtain ⟨b, o, rfl, hc⟩ := hrow (by rintro rfl; simp at hN; omega)
  refine ⟨b, o, rfl, fun k hk => ?_⟩
  obtain ⟨E, hEi⟩ : ∃ E, ess[i]? = some E := ⟨_, List.getElem?_eq_getElem (by omega)⟩
  obtain ⟨hl, cv, rfl, hCm⟩ := hmem i k E hk hEi
  have hCm' := hCm
  obtain ⟨q, c, es2, rfl, -⟩ := hCm'
  exact ⟨q, c, hl, fun W hW => ⟨fun j u hu => by rw [hW.cell (p := ⟨b, o + i * 98 + j, none⟩) (lt_of_cell (hc i _ hEi j u hu))]; exact hc i _ hEi j u hu, hCm.below hW⟩⟩
set_option maxRecDepth 100000 in
set_option maxHeartbeats 4000000 in
theorem sameBlocks42 (ks : List Bk) (hk : ∀ k ∈ ks, BkFit k ∧ k.ds.length < 1000000000) (p q : Option Addr) (N cap cap' : Nat) (W : World) (hN : N = ks.length) (h : BksAt W (.slice p N cap) ks) (h' : BksAt W (.slice q N cap') ks) (hsz : N < 1000000000) :
    Calls Try.prog 42 #[.slice p N cap, .slice q N cap'] W fun e w' => e = .returned (.bool true) ∧ Below W.heap.size W w' := by
  have H41 : Hid (∀ (k : Bk) (p q : Option Addr) (c c' : Nat) (U : World), BkFit k → k.ds.length < 1000000000 → SdsAt U (.slice p k.ds.length c) k.ds → SdsAt U (.slice q k.ds.length c') k.ds → Calls Try.prog 41 #[.agg (k.cells (.slice p k.ds.length c)).toArray, .agg (k.cells (.slice q k.ds.length c')).toArray] U fun e w' => e = .returned (.bool true) ∧ Below U.heap.size U w') := fun k p q c c' U h1 h2 h3 h4 => sameBlock41 k h1 p q _ c c' U rfl h3 h4 h2
  have HA := hid h
  have HA' := hid h'
  have HN := hid hN
  have HFT := hid hk
  clear h h' hN hk
  go_enter Try.func42, Try.ntmps42
  go_wp2_with fail
  go_loopw [5] (fun iv wr => ∃ i : Nat, iv = .int .i64 (i : Int) ∧ i ≤ N ∧ Hid (Below W.heap.size W wr)) (fun iv _ => N - natOf iv)
  case atStart => exact ⟨0, rfl, by omega, Below.refl _ _⟩
  case round =>
    obtain ⟨i, rfl, hi, HB⟩ := hrel
    by_cases hlt : i < N
    · obtain ⟨d, hdi⟩ : ∃ d, ks[i]? = some d := ⟨_, List.getElem?_eq_getElem (by have := HN.out; omega)⟩
      obtain ⟨b, o, rfl, hc⟩ := HA.out.at HN.out hlt
      obtain ⟨b', o', rfl, hc'⟩ := HA'.out.at HN.out hlt
      obtain ⟨q1, c1, hl1, h1⟩ := hc d hdi
      obtain ⟨q2, c2, hl2, h2⟩ := hc' d hdi
      obtain ⟨hd2, hd3⟩ := HFT.out d (List.mem_of_getElem? hdi)
      have hcall := hid (show ∀ U, Below W.heap.size W U → Calls Try.prog 41 #[.agg (d.cells (.slice q1 d.ds.length c1)).toArray, .agg (d.cells (.slice q2 d.ds.length c2)).toArray] U fun e w' => e = .returned (.bool true) ∧ Below U.heap.size U w' from fun U hU => H41.out d q1 q2 c1 c2 U hd2 hd3 (h1 U hU).2 (h2 U hU).2)
      have HG1 := hid (fun U hU => (h1 U hU).1)
      have HG2 := hid (fun U hU => (h2 U hU).1)
      have hz1 : (Try.prog.info? 39).map (·.size) = some (d.cells (.slice q1 d.ds.length c1)).length := by rw [hl1]; exact size39
      have hz2 : (Try.prog.info? 39).map (·.size) = some (d.cells (.slice q2 d.ds.length c2)).length := by rw [hl2]; exact size39
      have e2 : (i : Int) < (N : Int) := by omega
      have e3 : (0 : Int) ≤ (i : Int) := by omega
      generalize d.cells (.slice q1 d.ds.length c1) = E1 at *
      generalize d.cells (.slice q2 d.ds.length c2) = E2 at *
      clear hc hc' hdi hd2 hd3 h1 h2 hl1 hl2
      go_upto_region 6 with fail
      have HR1 : Hid (∀ x, (∃ y : Nx wr, x = y.w) → x.rangeAt b (o + i * 98) E1) := by
        rintro _ ⟨y, rfl⟩
        exact HG1.out y.w (HB.out.trans (y.h.mono HB.out.size))
      have HR2 : Hid (∀ x, (∃ y : Nx wr, x = y.w) → x.rangeAt b' (o' + i * 98) E2) := by
        rintro _ ⟨y, rfl⟩
        exact HG2.out y.w (HB.out.trans (y.h.mono HB.out.size))
      have HBD : Hid (Below wr.heap.size wr wr.drew) := Below.drewN (Below.refl _ _) 1
      have HBU : Hid (Below W.heap.size W wr.drew) := Below.drewN HB.out 1
      refine wp_region_calm (S := fun w' => ∃ x : Nx wr, w' = x.w) [(0, false), (1, false), (2, false), (3, false), (4, false), (5, false), (6, false), (7, false), (8, true), (9, false)] (by kernel_rfl) (by kernel_rfl) rfl (by kernel_rfl) ⟨⟨wr.drew, HBD.out⟩, rfl⟩ ?_
      obtain ⟨U, hU⟩ : ∃ U, U = wr.drew := ⟨_, rfl⟩
      rw [← hU] at HBD HBU ⊢
      clear hU
      iterate 3 (refine plan_take rfl (fun K hK => ?_); go_simp; refine ⟨_, fun _ => rfl, hK _ ?_⟩; clear hK K)
      refine plan_takeY (v := .agg E1.toArray) rfl (by rfl) (yieldsIf_load_mid (by rfl) 39 _ rfl b (o + i * 98) (by go_simp) E1 _ HR1.out Try.underlying39 rfl hz1) ?_
      simp only [Act.put, List.setIfInBounds_toArray]
      try simp only [List.set_cons_zero, List.set_cons_succ]
      iterate 3 (refine plan_take rfl (fun K hK => ?_); go_simp; refine ⟨_, fun _ => rfl, hK _ ?_⟩; clear hK K)
      refine plan_takeY (v := .agg E2.toArray) rfl (by rfl) (yieldsIf_load_mid (by rfl) 39 _ rfl b' (o' + i * 98) (by go_simp) E2 _ HR2.out Try.underlying39 rfl hz2) ?_
      simp only [Act.put, List.setIfInBounds_toArray]
      try simp only [List.set_cons_zero, List.set_cons_succ]
      refine plan_turn rfl (fun K' hK => ?_)
      go_simp
      refine Calls.mono (hcall.out U HBU.out) ?_
      rintro _ w3 ⟨rfl, hb6⟩
      have HB6 := hid (HBD.out.trans (hb6.mono HBD.out.size))
      have HW6 := hid (HBU.out.trans (hb6.mono HBU.out.size))
      refine hK _ _ ⟨⟨w3, HB6.out⟩, rfl⟩ ?_
      clear hK K' hb6
      (refine plan_take rfl (fun K hK => ?_); go_simp; refine ⟨_, fun _ => rfl, hK _ ?_⟩; clear hK K)
      refine plan_done ⟨rfl, ?_⟩
      go_wp2
      go_roundw
      case rel => exact ⟨i + 1, by go_num, by omega, HW6⟩
      case measure => simp [natOf]; omega
    · obtain rfl : i = N := by omega
      have e2 : ((i : Int) < (i : Int)) = False := by simp
      go_wp2
      go_ret
      exact ⟨rfl, HB.out⟩
end Go.Proofs.Ytpiflgbcbhnmpaa
