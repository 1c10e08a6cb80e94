/- The reference: a block. -/
import Derived.Test.YtpiflgbcbhnmpaaPlan
namespace Go.Proofs.Ytpiflgbcbhnmpaa
open Go.RowKit
section
variable {Pg : Program} {ops : Array Oper} {Q : Exit → Act → World → Prop} {S : World → Prop}
/-- One step that is taken first, by a law. -/
theorem plan_takeY {i : Nat} {r : List (Nat × Bool)} {a : Act} {w : World} {o : Oper} {v : Value} (ho : ops[i]? = some o) (hw : Region.wanted o (yielded ops a.tmps) = true) (hy : YieldsIf Pg ops S o v a) (h : wpPlan Pg ops Q S r (a.put o.dst v) w) : wpPlan Pg ops Q S ((i, false) :: r) a w := by
  refine ⟨o, ho, ?_⟩
  rw [if_pos hw]
  rcases hy with ⟨_, hy⟩ | ⟨hn, _⟩
  · exact ⟨v, hy, h⟩
  · rw [hw] at hn; cases hn
end
def OutBk (w : World) (L : List Nat) (b : Bool) (e : Ending) (w' : World) : Prop := ∃ p N cap, N = L.length ∧ e = .returned (.tuple #[.slice p N cap, .bool b]) ∧ OwnB w' w.heap.size (.slice p N cap) L ∧ Below w.heap.size w w'
theorem flatD_take (ds : List Sd) (i : Nat) (hi : i < ds.length) (d : Sd) (hd : ds[i]? = some d) : (ds.take (i + 1)).flatMap Sd.bytes = (ds.take i).flatMap Sd.bytes ++ (d.body ++ d.tag) := by
  rw [List.take_succ_eq_append_getElem hi, List.flatMap_append]
  have : ds[i] = d := (List.getElem?_eq_some_iff.1 hd).2
  simp [this, Sd.bytes]
theorem allD_take (ds : List Sd) (i : Nat) (hi : i < ds.length) (d : Sd) (hd : ds[i]? = some d) (h : (ds.take i).all Sd.ok = true) (ho : d.ok = true) : (ds.take (i + 1)).all Sd.ok = true := by
  rw [List.take_succ_eq_append_getElem hi, List.all_append, h]
  have : ds[i] = d := (List.getElem?_eq_some_iff.1 hd).2
  simp [this, ho]
theorem allD_false (ds : List Sd) (i : Nat) (d : Sd) (hd : ds[i]? = some d) (ho : d.ok = false) : ds.all Sd.ok = false := by
  rw [List.all_eq_false]
  exact ⟨d, List.mem_of_getElem? hd, by simp [ho]⟩
set_option maxRecDepth 100000 in
set_option maxHeartbeats 8000000 in
theorem rblock62 (k : Bk) (hf : BkFit k) (q : Option Addr) (N qc : Nat) (hN : N = k.ds.length) (hNb : N < 1000000000) (w : World) (hC : SdsLo w w.heap.size (.slice q N qc) k.ds) :
    Calls Try.prog 62 #[.slice none 0 0, .agg (k.cells (.slice q N qc)).toArray] w fun e w' => OutBk w (blkLst k) k.ok e w' := by
  have hw : Hid (∀ a b q W, rng a (b - 1) = q → Calls Try.prog 59 #[.int .i64 a, .int .i64 b] W fun e w' => e = .returned (.bool q) ∧ w' = W) := fun a b q W h => by rw [← h]; exact within59 a b W
  have hup : Hid (∀ (n : Nat) (p1 : Option Addr) (N1 c1 : Nat) (L : List Nat) (W1 : World), n < 18446744073709551616 → BytesAt W1 (.slice p1 N1 c1) L → N1 = L.length → N1 < 100000000000 → Calls Try.prog 46 #[.slice p1 N1 c1, .int .u64 (n : Int)] W1 fun e w' => NumOk W1 N1 (L ++ sev n) e w') := refNum
  have h53 : Hid (∀ (d : Sd) (q : Option Addr) (c : Nat) (W : World), d.m < 18446744073709551616 → d.cs.length < 1000000000 → CmdsAt W (.slice q d.cs.length c) d.cs → Calls Try.prog 53 #[.agg (d.cells (.slice q d.cs.length c)).toArray] W fun e w' => e = .returned (.bool d.ok) ∧ Below W.heap.size W w') := fun d q c W h1 h2 h3 => rsealed53 d h1 q _ c W rfl h3 h2
  have h54 : Hid (∀ (d : Sd) (q : Option Addr) (c : Nat) (W : World) (p1 : Option Addr) (K1 c1 : Nat) (L : List Nat), d.Nn → CmdsAt W (.slice q d.cs.length c) d.cs → BytesAt W (.slice p1 K1 c1) L → K1 = L.length → K1 < 1000000000 → Calls Try.prog 54 #[.slice p1 K1 c1, .agg (d.cells (.slice q d.cs.length c)).toArray] W fun e w' => OutB W W.heap.size (L ++ d.body) e w') := fun d q c W p1 K1 c1 L hn h3 hB hK hb => rbody54 d hn q _ c rfl L p1 K1 c1 W hK hB hb h3
  obtain ⟨W, hW⟩ : ∃ W, W = w.alloc (.cells (k.cells (.slice q N qc)).toArray 39) := ⟨_, rfl⟩
  obtain ⟨B, hBB⟩ : ∃ B, B = w.heap.size := ⟨_, rfl⟩
  have HBW : Hid (Below w.heap.size w W) := by rw [hW]; exact (Below.refl _ _).alloc (Nat.le_refl _) _
  have HQ : Hid (Blk W B (k.cells (.slice q N qc)) 39) := by rw [hW, hBB]; exact Blk.new _ _ _
  have HCW := hid (hC.below HBW.out)
  obtain ⟨p', c', ess, he, hel, hmem, hrow⟩ := HCW.out
  simp at he
  obtain ⟨rfl, -, rfl⟩ := he
  have HM := hid hmem
  have HR := hid hrow
  have HN := hid hN
  have HEL := hid hel
  have HFT := hid hf.d
  have HK : Hid (∀ w', Below W.heap.size W w' → w'.cell? ⟨B, 0, none⟩ = some (.int .i64 k.tn) ∧ w'.cell? ⟨B, 97, none⟩ = some (.slice q N qc) ∧ BytesAt w' (.slice (some ⟨B, 1, none⟩) 32 32) k.pv ∧ BytesAt w' (.slice (some ⟨B, 33, none⟩) 32 32) k.rt ∧ BytesAt w' (.slice (some ⟨B, 65, none⟩) 32 32) k.st) := fun w' hb => by
    have hB := HQ.out.below hb HQ.out.lt
    exact ⟨hB.cell 0, (hB.cell 97).trans (bkL_get97 _ _ _ _ _ (by rw [List.length_map]; exact hf.p) (by rw [List.length_map]; exact hf.r) (by rw [List.length_map]; exact hf.s)), mid_bytes hB hf.p (fun i hi => bkL_g1 _ _ _ _ _ hf.p i hi), mid_bytes hB hf.r (fun i hi => bkL_g33 _ _ _ _ _ hf.p hf.r i hi), mid_bytes hB hf.s (fun i hi => bkL_g65 _ _ _ _ _ hf.p hf.r hf.s i hi)⟩
  have HOK : Hid (k.ok = (rng k.tn 59 && decide (0 < N) && (decide (N ≤ 4) && k.ds.all Sd.ok))) := by rw [hN]; rfl
  have HLL : Hid (∀ b, k.ok = b → blkLst k = if b then sev k.tn.toNat ++ (k.pv ++ (k.rt ++ (k.st ++ (sev N ++ k.ds.flatMap Sd.bytes)))) else []) := fun b hb => by unfold blkLst; rw [hb, hN]; rfl
  obtain ⟨R, hR⟩ : ∃ R, R = k.ok := ⟨_, rfl⟩
  obtain ⟨LL, hLL⟩ : ∃ LL, LL = blkLst k := ⟨_, rfl⟩
  rw [← hR] at HOK HLL ⊢
  rw [← hLL] at HLL ⊢
  have HPL : Hid (k.pv.length = 32 ∧ k.rt.length = 32 ∧ k.st.length = 32) := ⟨hf.p, hf.r, hf.s⟩
  obtain ⟨tn, pv, rt, st, ds⟩ := k
  simp only at HK HOK HLL HM HR HN HEL HFT HPL
  obtain ⟨X, hX⟩ : ∃ X, X = (⟨tn, pv, rt, st, ds⟩ : Bk).cells (.slice q N qc) := ⟨_, rfl⟩
  rw [← hX] at hW ⊢
  unfold NumOk at hup
  unfold OutBk
  clear hC hN HQ HCW hX hf hmem hrow hel hR hLL
  obtain ⟨a0, a1, a2, a3, a4⟩ := HK.out W (Below.refl _ _)
  have A2 := hid a2
  have A3 := hid a3
  have A4 := hid a4
  clear a2 a3 a4
  rcases r1 : rng tn (60 - 1) with _ | _
  · have hR : R = false := by rw [HOK.out, show rng tn 59 = false from r1]; rfl
    subst hR
    have hL : LL = [] := HLL.out false rfl
    go_enter Try.func62, Try.ntmps62
    go_upto_region 1 with fail
    rw [← hW, ← hBB]
    clear hW hBB
    go_wp2_with ((go_at_call 59; with_reducible refine Calls.mono (hw.out _ _ false _ r1) ?_; rintro e w3 ⟨rfl, hh⟩; replace hh := hh.symm; subst hh))
    go_ret2
    exact ⟨none, 0, 0, by rw [hL]; rfl, rfl, by rw [hL]; exact OwnB.nil _ _, HBW.out⟩
  by_cases g0 : 0 < N
  case neg =>
    have hR : R = false := by rw [HOK.out, decide_eq_false g0]; simp
    have b0 : (N : Int) < 1 := by omega
    subst hR
    have hL : LL = [] := HLL.out false rfl
    go_enter Try.func62, Try.ntmps62
    go_upto_region 1 with fail
    rw [← hW, ← hBB]
    clear hW hBB
    go_wp2_with ((go_at_call 59; with_reducible refine Calls.mono (hw.out _ _ true _ r1) ?_; rintro e w3 ⟨rfl, hh⟩; replace hh := hh.symm; subst hh))
    go_ret2
    exact ⟨none, 0, 0, by rw [hL]; rfl, rfl, by rw [hL]; exact OwnB.nil _ _, HBW.out⟩
  have b0 : ((N : Int) < 1) = False := by simp; omega
  by_cases g4 : N ≤ 4
  case neg =>
    have hR : R = false := by rw [HOK.out, decide_eq_false g4]; simp
    subst hR
    have hL : LL = [] := HLL.out false rfl
    have b1 : (4 : Int) < (N : Int) := by omega
    go_enter Try.func62, Try.ntmps62
    go_upto_region 1 with fail
    rw [← hW, ← hBB]
    clear hW hBB
    go_wp2_with ((go_at_call 59; with_reducible refine Calls.mono (hw.out _ _ true _ r1) ?_; rintro e w3 ⟨rfl, hh⟩; replace hh := hh.symm; subst hh))
    go_ret2
    exact ⟨none, 0, 0, by rw [hL]; rfl, rfl, by rw [hL]; exact OwnB.nil _ _, HBW.out⟩
  have b1 : ((4 : Int) < (N : Int)) = False := by simp; omega
  have b2 : (N : Int) ≤ 4 := by omega
  have HRA : Hid (R = ds.all Sd.ok) := by
    show _ = _
    rw [HOK.out, show rng tn 59 = true from r1, decide_eq_true g4, decide_eq_true g0]; simp
  have htn : 0 ≤ tn ∧ tn ≤ 59 := by have h : rng tn 59 = true := r1; simpa [rng] using h
  obtain ⟨tn, rfl⟩ : ∃ n : Nat, tn = (n : Int) := ⟨tn.toNat, by omega⟩
  simp only [Int.toNat_natCast] at HLL
  have htn2 : tn ≤ 59 := by omega
  clear HOK g0 g4 htn
  go_enter Try.func62, Try.ntmps62
  go_upto_region 1 with fail
  rw [← hW, ← hBB]
  clear hW hBB
  go_wp2_with ((go_at_call 59; with_reducible refine Calls.mono (hw.out _ _ true _ r1) ?_; rintro e w3 ⟨rfl, hh⟩; replace hh := hh.symm; subst hh))
  have HSN := hid (bytes_nil W)
  refine Calls.mono (hup.out tn none 0 0 [] _ (by omega) HSN.out rfl (by omega)) ?_
  rintro e v1 ⟨p1, N1, c1, hN1, rfl, hl1, ho1, hb1⟩
  rw [List.nil_append] at hN1 ho1
  have HB1 := hid hb1
  have HO1 := hid ho1
  have HN1 := hid hN1
  clear ho1 hb1 hN1 a0 a1 A2 A3 A4
  obtain ⟨a0, a1, a2, a3, a4⟩ := HK.out _ HB1.out
  have hNN2 : (sev tn).length + pv.length = N1 + 32 := by rw [← HN1.out, HPL.out.1]
  have hne2 : pv ≠ [] := by intro h; have := HPL.out.1; rw [h] at this; simp at this
  have hbb2 : N1 + 32 ≤ 1099511627776 := by omega
  have HAA2 := hid a2
  clear a2 a3 a4
  go_upto_region 5 with (first
    | ((with_reducible refine wpL_append W.heap.size (.slice p1 N1 c1) (.slice (some ⟨B, 1, none⟩) 32 32) (sev tn) pv (N1 + 32) hNN2 ?_ ?_ HO1.out HAA2.out hbb2 HB1.out.size ?_); (rfl); (rfl); (intro p2 c2 v2 ho2 hb2); (simp only [Act.put, List.setIfInBounds_toArray, List.set_cons_zero, List.set_cons_succ])))
  obtain ⟨N2, hN2⟩ : ∃ N2, N2 = N1 + 32 := ⟨_, rfl⟩
  rw [← hN2] at ho2 hNN2 ⊢
  have HB2 := hid (HB1.out.trans hb2)
  have HO2 := hid ho2
  have HN2 : Hid (N2 = ((sev tn) ++ pv).length) := by rw [List.length_append]; exact hid hNN2.symm
  have hl2 : N2 ≤ 42 := by omega
  clear ho2 hb2 hN2 hNN2 hne2 hbb2 HAA2 a0 a1
  obtain ⟨a0, a1, a2, a3, a4⟩ := HK.out _ HB2.out
  have hNN3 : ((sev tn) ++ pv).length + rt.length = N2 + 32 := by rw [← HN2.out, HPL.out.2.1]
  have hne3 : rt ≠ [] := by intro h; have := HPL.out.2.1; rw [h] at this; simp at this
  have hbb3 : N2 + 32 ≤ 1099511627776 := by omega
  have HAA3 := hid a3
  clear a2 a3 a4
  go_upto_region 6 with (first
    | ((with_reducible refine wpL_append W.heap.size (.slice p2 N2 c2) (.slice (some ⟨B, 33, none⟩) 32 32) ((sev tn) ++ pv) rt (N2 + 32) hNN3 ?_ ?_ HO2.out HAA3.out hbb3 HB2.out.size ?_); (rfl); (rfl); (intro p3 c3 v3 ho3 hb3); (simp only [Act.put, List.setIfInBounds_toArray, List.set_cons_zero, List.set_cons_succ])))
  obtain ⟨N3, hN3⟩ : ∃ N3, N3 = N2 + 32 := ⟨_, rfl⟩
  rw [← hN3] at ho3 hNN3 ⊢
  have HB3 := hid (HB2.out.trans hb3)
  have HO3 := hid ho3
  have HN3 : Hid (N3 = (((sev tn) ++ pv) ++ rt).length) := by rw [List.length_append]; exact hid hNN3.symm
  have hl3 : N3 ≤ 74 := by omega
  clear ho3 hb3 hN3 hNN3 hne3 hbb3 HAA3 a0 a1
  obtain ⟨a0, a1, a2, a3, a4⟩ := HK.out _ HB3.out
  have hNN4 : (((sev tn) ++ pv) ++ rt).length + st.length = N3 + 32 := by rw [← HN3.out, HPL.out.2.2]
  have hne4 : st ≠ [] := by intro h; have := HPL.out.2.2; rw [h] at this; simp at this
  have hbb4 : N3 + 32 ≤ 1099511627776 := by omega
  have HAA4 := hid a4
  clear a2 a3 a4
  go_upto_region 7 with (first
    | ((with_reducible refine wpL_append W.heap.size (.slice p3 N3 c3) (.slice (some ⟨B, 65, none⟩) 32 32) (((sev tn) ++ pv) ++ rt) st (N3 + 32) hNN4 ?_ ?_ HO3.out HAA4.out hbb4 HB3.out.size ?_); (rfl); (rfl); (intro p4 c4 v4 ho4 hb4); (simp only [Act.put, List.setIfInBounds_toArray, List.set_cons_zero, List.set_cons_succ])))
  obtain ⟨N4, hN4⟩ : ∃ N4, N4 = N3 + 32 := ⟨_, rfl⟩
  rw [← hN4] at ho4 hNN4 ⊢
  have HB4 := hid (HB3.out.trans hb4)
  have HO4 := hid ho4
  have HN4 : Hid (N4 = ((((sev tn) ++ pv) ++ rt) ++ st).length) := by rw [List.length_append]; exact hid hNN4.symm
  have hl4 : N4 ≤ 106 := by omega
  clear ho4 hb4 hN4 hNN4 hne4 hbb4 HAA4 a0 a1
  obtain ⟨a0, a1, a2, a3, a4⟩ := HK.out _ HB4.out
  clear a2 a3 a4
  go_wp2_with fail
  refine Calls.mono (hup.out N p4 N4 c4 _ _ (by omega) HO4.out.bytes HN4.out (by omega)) ?_
  rintro e v5 ⟨p5, N5, c5, hN5, rfl, hl5, ho5, hb5⟩
  have HB5 := hid (HB4.out.trans (hb5.mono HB4.out.size))
  have HO5 := hid (ho5.mono HB4.out.size)
  have HN5 := hid hN5
  have HLT : Hid (R = true → LL = (((((sev tn) ++ pv) ++ rt) ++ st) ++ sev N) ++ ds.flatMap Sd.bytes) := fun h => by
    have := HLL.out true h
    rw [this, if_pos rfl]; simp only [List.append_assoc]
  have hN5b : N5 ≤ 200 := by omega
  obtain ⟨L5, hL5⟩ : ∃ L5, L5 = ((((sev tn) ++ pv) ++ rt) ++ st) ++ sev N := ⟨_, rfl⟩
  rw [← hL5] at HLT HO5 HN5
  have HLF : Hid (R = false → LL = []) := fun h => HLL.out false h
  clear ho5 hb5 hN5 hL5 HLL HO1 HO2 HO3 HO4 HN1 HN2 HN3 HN4 HB1 HB2 HB3 HB4 a0 a1 hl1 hl2 hl3 hl4 hl5 HSN
  obtain ⟨a0, a1, a2, a3, a4⟩ := HK.out _ HB5.out
  clear a2 a3 a4
  go_wp2_with fail
  go_loopw [0, 6] (fun v iv wr => ∃ (p : Option Addr) (K c i : Nat), v = .slice p K c ∧ iv = .int .i64 (i : Nat) ∧ i ≤ N ∧ Hid (K = (L5 ++ (ds.take i).flatMap Sd.bytes).length) ∧ K ≤ 200 + 62000 * i ∧ Hid (OwnB wr W.heap.size (.slice p K c) (L5 ++ (ds.take i).flatMap Sd.bytes)) ∧ Hid (Below W.heap.size W wr) ∧ Hid ((ds.take i).all Sd.ok = true)) (fun _ iv _ => N - (intOf iv).toNat)
  case atStart => exact ⟨p5, N5, c5, 0, rfl, rfl, by omega, by simpa using HN5, by omega, by simpa using HO5, HB5, rfl⟩
  case round =>
    clear a0 a1 HB5 HO5 HN5
    obtain ⟨pr, K, c, i, rfl, rfl, hi, HKL, hKb, HO, hbe, HAL⟩ := hrel
    obtain ⟨a0, a1, a2, a3, a4⟩ := HK.out wr hbe.out
    clear a2 a3 a4
    by_cases hlt : i < N
    · have hlb : i < ds.length := by have := HN.out; omega
      have hne : ds ≠ [] := by rintro rfl; simp at hlb
      obtain ⟨b, o, rfl, hbl, hc⟩ := HR.out hne
      obtain ⟨d, hdi⟩ : ∃ d, ds[i]? = some d := ⟨_, List.getElem?_eq_getElem hlb⟩
      obtain ⟨E, hEi⟩ : ∃ E, ess[i]? = some E := ⟨_, List.getElem?_eq_getElem (by have := HEL.out; omega)⟩
      obtain ⟨hEl, q', qc', hEd, hCm, hqb⟩ := HM.out i d E hdi hEi
      have HRG : Hid (∀ w', Below W.heap.size W w' → w'.rangeAt b (o + i * 37) E) := fun w' hb j u hu => by
        have h9 := hc i E hEi j u hu
        rw [hb.cell (p := ⟨b, o + i * 37 + j, none⟩) (lt_of_cell h9)]; exact h9
      have HTG : Hid (∀ w', Below W.heap.size W w' → BytesAt w' (.slice (some ⟨b, o + i * 37 + 5, none⟩) 32 32) d.tag) := fun w' hb => by
        have ht := (HFT.out d (List.mem_of_getElem? hdi)).2.1
        refine ⟨_, 32, by rw [ht], by omega, (fun h => by cases h), fun _ => ⟨b, o + i * 37 + 5, rfl, fun j hj => ?_⟩⟩
        have h9 := HRG.out w' hb (5 + j) (By (d.tag.getD j 0)) (by rw [hEd, show 5 + j = j + 5 by omega]; show (d.tag.map By)[j]? = _; simp [hj])
        rw [show o + i * 37 + (5 + j) = o + i * 37 + 5 + j by omega] at h9
        exact h9
      have hr := HRG.out wr hbe.out
      obtain ⟨hd1, hd2, hd3⟩ := HFT.out d (List.mem_of_getElem? hdi)
      have hcall := hid (show ∀ W', Below W.heap.size W W' → Calls Try.prog 53 #[.agg E.toArray] W' fun e w' => e = .returned (.bool d.ok) ∧ Below W'.heap.size W' w' from fun W' hW' => by rw [hEd]; exact h53.out d q' qc' W' hd1 hd3 (hCm.below hW'))
      have hbody := hid (show d.ok = true → ∀ W' p1 K1 c1 L, Below W.heap.size W W' → BytesAt W' (.slice p1 K1 c1) L → K1 = L.length → K1 < 1000000000 → Calls Try.prog 54 #[.slice p1 K1 c1, .agg E.toArray] W' fun e w' => ∃ p2 N2 c2, N2 = (L ++ d.body).length ∧ e = .returned (.slice p2 N2 c2) ∧ OwnB w' W'.heap.size (.slice p2 N2 c2) (L ++ d.body) ∧ Below W'.heap.size W' w' from fun hok W' p1 K1 c1 L hW' h1 h2 h3 => by rw [hEd]; exact h54.out d q' qc' W' p1 K1 c1 L (Sd.nn hok hd2) (hCm.below hW') h1 h2 h3)
      have HTK := hid (flatD_take ds i hlb d hdi)
      have HAT := hid (allD_take ds i hlb d hdi HAL.out)
      have HAF := hid (allD_false ds i d hdi)
      have HBL : Hid (d.ok = true → d.body.length ≤ 61000) := fun h => body_len (Sd.nn h hd2)
      have HTL : Hid (d.tag.length = 32) := hd2
      have e2 : (i : Int) < (N : Int) := by omega
      have e3 : (0 : Int) ≤ (i : Int) := by omega
      have hi47 : (Try.prog.info? 47).map (·.size) = some E.length := by rw [hEl]; exact size47
      generalize d.body = DB at *
      generalize d.tag = TG at *
      obtain ⟨ok, hok⟩ : ∃ ok, ok = d.ok := ⟨_, rfl⟩
      rw [← hok] at hcall hbody HAT HAF HBL
      clear hc hdi hEi hne hEd hCm hd1 hd2 hd3 hqb hEl hok
      rcases ok with _ | _
      · have hRF : R = false := HRA.out.trans (HAF.out rfl)
        have hL : LL = [] := HLF.out hRF
        subst hRF
        clear HAF hbody HAT HBL
        go_wp2_with (first
          | ((with_reducible refine wpL_load 47 b (o + i * 37) E _ ?_ hr Try.underlying47 ?_ hi47 ?_); (rfl); (rfl); (simp only [Act.put, List.setIfInBounds_toArray, List.set_cons_zero, List.set_cons_succ]))
          | (go_at_call 53; refine Calls.mono (hcall.out _ hbe.out) ?_; rintro e w2 ⟨rfl, hb2⟩))
        go_ret2
        exact ⟨none, 0, 0, by rw [hL]; rfl, rfl, by rw [hL]; exact OwnB.nil _ _, HBW.out.trans ((hbe.out.trans (hb2.mono hbe.out.size)).mono HBW.out.size)⟩
      · have hBL := HBL.out rfl
        have HAT2 := hid (HAT.out rfl)
        have hbody2 := hid (hbody.out rfl)
        clear HAF hbody HAT HBL
        go_wp2_with (first
          | ((with_reducible refine wpL_load 47 b (o + i * 37) E _ ?_ hr Try.underlying47 ?_ hi47 ?_); (rfl); (rfl); (simp only [Act.put, List.setIfInBounds_toArray, List.set_cons_zero, List.set_cons_succ])))
        refine Calls.mono (hcall.out _ hbe.out) ?_
        rintro e w2 ⟨rfl, hb2⟩
        have HB2 := hid (hbe.out.trans (hb2.mono hbe.out.size))
        have HO2 := hid (HO.out.below hb2)
        clear hr hb2 hcall a0 a1
        go_upto_region 12 with fail
        have n1 : ∀ x : Nx w2, x.w.cell? ⟨B, 97, none⟩ = some (.slice (some ⟨b, o, none⟩) N qc) := fun x => (HK.out x.w (HB2.out.trans (x.h.mono HB2.out.size))).2.1
        have HRX : Hid (∀ x, (∃ y : Nx w2, x = y.w) → x.rangeAt b (o + i * 37) E) := by
          rintro _ ⟨y, rfl⟩
          exact HRG.out y.w (HB2.out.trans (y.h.mono HB2.out.size))
        have HBD : Hid (Below w2.heap.size w2 w2.drew) := Below.drewN (Below.refl _ _) 1
        have HOD : Hid (OwnB w2.drew W.heap.size (.slice pr K c) (L5 ++ (ds.take i).flatMap Sd.bytes)) := HO2.out.stay fun _ _ => rfl
        have HB2D : Hid (Below W.heap.size W w2.drew) := Below.drewN HB2.out 1
        refine wp_region_calm (S := fun w' => ∃ x : Nx w2, w' = x.w) [(0, false), (1, false), (2, false), (3, false), (4, false), (5, false), (7, false), (8, false), (9, false), (10, false), (11, false), (12, false), (6, true), (13, true), (14, false)] (by kernel_rfl) (by kernel_rfl) rfl (by kernel_rfl) ⟨⟨w2.drew, HBD.out⟩, rfl⟩ ?_
        obtain ⟨U, hU⟩ : ∃ U, U = w2.drew := ⟨_, rfl⟩
        rw [← hU] at HBD HOD HB2D ⊢
        clear hU HO2 HO
        iterate 5 (refine plan_take rfl (fun K hK => ?_); go_simp; refine ⟨_, fun _ => rfl, hK _ ?_⟩; clear hK K)
        refine plan_takeY (v := .agg E.toArray) rfl (by rfl) (yieldsIf_load_mid (by rfl) 47 _ rfl b (o + i * 37) (by go_simp) E _ HRX.out Try.underlying47 rfl hi47) ?_
        simp only [Act.put, List.setIfInBounds_toArray]
        try simp only [List.set_cons_zero, List.set_cons_succ]
        iterate 6 (refine plan_take rfl (fun K hK => ?_); go_simp; refine ⟨_, fun _ => rfl, hK _ ?_⟩; clear hK K)
        refine plan_turn rfl (fun K' hK => ?_)
        go_simp
        refine Calls.mono (hbody2.out U pr K c _ HB2D.out HOD.out.bytes HKL.out (by omega)) ?_
        rintro _ w3 ⟨p6, N6, c6, hN6, rfl, ho6, hb6⟩
        have HB6 := hid (HBD.out.trans (hb6.mono HBD.out.size))
        have HW6 := hid (HB2D.out.trans (hb6.mono HB2D.out.size))
        have HO6b : Hid (OwnB w3 w2.heap.size (.slice p6 N6 c6) _) := ho6.mono HBD.out.size
        have HN6 := hid hN6
        have hN6b : N6 ≤ 200 + 62000 * i + 61000 := by rw [hN6, List.length_append, ← HKL.out]; omega
        have HTGW := hid (HTG.out w3 HW6.out)
        refine hK _ _ ⟨⟨w3, HB6.out⟩, rfl⟩ ?_
        clear hK K' ho6 hb6 hN6 n1
        refine plan_turn rfl (fun K' hK => ?_)
        rw [if_pos (by rfl)]
        refine turn_of_list (ops := #[]) rfl ?_
        refine wpL_append w2.heap.size (.slice p6 N6 c6) (.slice (some ⟨b, o + i * 37 + 5, none⟩) 32 32) _ TG (N6 + 32) (by rw [← HN6.out, HTL.out]) rfl rfl (HO6b.out) HTGW.out (by omega) HB6.out.size ?_
        intro p7 c7 w4 ho7 hb7
        have HB7 := hid (HB6.out.trans hb7)
        have HW7 := hid (HB2.out.trans (HB7.out.mono HB2.out.size))
        have HO7 := hid (ho7.mono HB2.out.size)
        have HN7 : Hid (N6 + 32 = ((L5 ++ (ds.take i).flatMap Sd.bytes ++ DB) ++ TG).length) := by rw [List.length_append, ← HN6.out, HTL.out]; exact hid rfl
        refine ⟨rfl, hK _ _ ⟨⟨w4, HB7.out⟩, rfl⟩ ?_⟩
        clear hK K' ho7 hb7
        simp only [Act.put, List.setIfInBounds_toArray, List.set_cons_zero, List.set_cons_succ]
        (refine plan_take rfl (fun K hK => ?_); go_simp; refine ⟨_, fun _ => rfl, hK _ ?_⟩; clear hK K)
        refine plan_done ⟨rfl, ?_⟩
        have HEQ : Hid (L5 ++ (ds.take (i + 1)).flatMap Sd.bytes = (L5 ++ (ds.take i).flatMap Sd.bytes ++ DB) ++ TG) := by rw [HTK.out]; exact hid (by simp only [List.append_assoc])
        rw [← HEQ.out] at HO7 HN7
        go_wp2
        go_roundw
        case rel => exact ⟨p7, N6 + 32, c7, i + 1, rfl, by go_num, by omega, HN7, by omega, HO7, HW7, HAT2⟩
        case measure => simp [intOf]; omega
    · obtain rfl : i = N := by omega
      have e2 : ((i : Int) < (i : Int)) = False := by simp
      have HT : Hid (ds.take i = ds) := by rw [HN.out]; exact hid List.take_length
      rw [HT.out] at HO HKL HAL
      have hRT : R = true := HRA.out.trans HAL.out
      have hL := HLT.out hRT
      rw [← hL] at HO HKL
      clear hL HLT
      subst hRT
      go_wp2
      go_ret2
      have HE1 := HO.out.mono HBW.out.size
      have HE2 := HBW.out.trans (hbe.out.mono HBW.out.size)
      have hKL := HKL.out
      subst hKL
      first
        | exact ⟨pr, _, c, rfl, rfl, HE1, HE2⟩
        | exact ⟨pr, c, rfl, HE1, HE2⟩
        | exact ⟨rfl, HE1, HE2⟩
end Go.Proofs.Ytpiflgbcbhnmpaa
