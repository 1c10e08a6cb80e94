/- The reference: Block, claimed, Claim, Result; the program: Claim. -/
import Derived.Test.YtpiflgbcbhnmpaaRblo
/- The reference: Block, claimed, Claim, Result; the program: Claim. -/
namespace Go.Proofs.Ytpiflgbcbhnmpaa
open Go.RowKit
set_option maxRecDepth 100000 in
set_option maxHeartbeats 8000000 in
theorem rblock27 (k : Bk) (hf : BkFit k) (q : Option Addr) (N qc : Nat) (hN : N = k.ds.length) (hNb : N < 1000000000) (w : World) (hC : SdsLo w w.heap.size (.slice q N qc) k.ds) :
    Calls Try.prog 27 #[.agg (k.cells (.slice q N qc)).toArray] w fun e w' => OutE w w.heap.size (blkLst k) (blkErr k) e w' := by
  have hal : Below w.heap.size w (w.alloc (.cells (k.cells (.slice q N qc)).toArray 39)) := (Below.refl _ _).alloc (Nat.le_refl _) _
  have hbx := Blk.new w (k.cells (.slice q N qc)) 39
  have h62 := hid (rblock62 k hf q N qc hN hNb (w.alloc (.cells (k.cells (.slice q N qc)).toArray 39)) (by
    obtain ⟨p, cap, ess, h0, h1, h2, h3⟩ := hC.below hal
    exact ⟨p, cap, ess, h0, h1, fun i d es hd he => by
      obtain ⟨a1, q, c, a2, a3, a4⟩ := h2 i d es hd he
      exact ⟨a1, q, c, a2, a3, fun hp a ha => Nat.lt_of_lt_of_le (a4 hp a ha) hal.size⟩, fun hn => by
      obtain ⟨b, o, e, hb, hc⟩ := h3 hn
      exact ⟨b, o, e, Nat.lt_of_lt_of_le hb hal.size, hc⟩⟩))
  have HE : Hid (blkErr k = if k.ok then 0 else 4) := rfl
  have HL0 : Hid (k.ok = false → blkLst k = []) := fun h => by unfold blkLst; rw [h]; rfl
  obtain ⟨E, hE⟩ : ∃ E, E = k.cells (.slice q N qc) := ⟨_, rfl⟩
  have hEl : E.length = 98 := by rw [hE]; exact bkL_length _ _ _ _ _ (by rw [List.length_map]; exact hf.p) (by rw [List.length_map]; exact hf.r) (by rw [List.length_map]; exact hf.s)
  have hi39 : (Try.prog.info? 39).map (·.size) = some E.length := by rw [hEl]; exact size39
  rw [← hE] at h62 hbx hal ⊢
  have HAL := hid hal
  have hr := hbx.range
  generalize blkLst k = LL at *
  generalize blkErr k = ER at *
  generalize k.ok = ok at *
  unfold OutBk at h62
  clear hE hC hN hal hbx hf
  rcases ok with _ | _
  all_goals
    go_enter Try.func27, Try.ntmps27
    go_upto_region 1 with (fail)
    generalize w.alloc (.cells E.toArray 39) = W at *
    go_wp2_with (first
      | ((with_reducible refine wpL_load 39 w.heap.size 0 E _ ?_ hr Try.underlying39 ?_ hi39 ?_); (rfl); (rfl); (simp only [Act.put, List.setIfInBounds_toArray, List.set_cons_zero, List.set_cons_succ])))
    refine Calls.mono h62.out ?_
    rintro e w2 ⟨p2, N2, c2, hN2, rfl, ho2, hb2⟩
    have HN2 := hid hN2
    have HB2 := hid (HAL.out.trans (hb2.mono HAL.out.size))
    have HO2 := hid (ho2.mono HAL.out.size)
    clear hN2 ho2 hb2 hr
    go_wp2_with fail
    go_ret2
  · have h4 : ER = 4 := HE.out
    have hL := HL0.out (by first | rfl | trivial)
    subst h4 hL
    exact ⟨none, 0, 0, rfl, rfl, OwnB.nil _ _, HB2.out⟩
  · have h4 : ER = 0 := HE.out
    subst h4
    exact ⟨p2, N2, c2, HN2.out, rfl, HO2.out, HB2.out⟩
set_option maxRecDepth 100000 in
set_option maxHeartbeats 8000000 in
theorem claimed65z (r : Rs) (hm : r.m < 18446744073709551616) (z : Int) (hz : wrap64 (r.wn + 1) = z) (hzz : (decide (-1 ≤ r.wn) && decide (r.wn < 4)) = rng z 4) (w : World) : Calls Try.prog 65 #[.agg r.cells.toArray] w fun e w' => e = .returned (.bool r.ok) ∧ Below w.heap.size w w' := by
  have hw : Hid (∀ a b q W, rng a (b - 1) = q → Calls Try.prog 59 #[.int .i64 a, .int .i64 b] W fun e w' => e = .returned (.bool q) ∧ w' = W) := fun a b q W h => by rw [← h]; exact within59 a b W
  obtain ⟨W, hW⟩ : ∃ W, W = w.alloc (.cells r.cells.toArray 41) := ⟨_, rfl⟩
  obtain ⟨B, hBB⟩ : ∃ B, B = w.heap.size := ⟨_, rfl⟩
  have HBW : Hid (Below w.heap.size w W) := by rw [hW]; exact (Below.refl _ _).alloc (Nat.le_refl _) _
  have HQ : Hid (Blk W B r.cells 41) := by rw [hW, hBB]; exact Blk.new _ _ _
  have HK : Hid (∀ w', Below W.heap.size W w' → w'.cell? ⟨B, 0, none⟩ = some (.int .u64 (r.m : Int)) ∧ w'.cell? ⟨B, 1, none⟩ = some (.int .i64 r.tn) ∧ w'.cell? ⟨B, 2, none⟩ = some (.int .i64 r.wn)) := fun w' hb => by
    have hB := HQ.out.below hb HQ.out.lt
    exact ⟨hB.cell 0, hB.cell 1, hB.cell 2⟩
  have HOK : Hid (r.ok = (decide (r.m ≤ 9223372036854775807) && rng r.tn 60 && rng z 4)) := by
    show _ = _
    unfold Rs.ok
    rw [Bool.and_assoc (decide (r.m ≤ 9223372036854775807) && rng r.tn 60)]
    rw [hzz]
  obtain ⟨R, hR⟩ : ∃ R, R = r.ok := ⟨_, rfl⟩
  rw [← hR] at HOK ⊢
  obtain ⟨m, tn, wn, la, tg⟩ := r
  simp only at hm hz HK HOK
  obtain ⟨X, hX⟩ : ∃ X, X = (⟨m, tn, wn, la, tg⟩ : Rs).cells := ⟨_, rfl⟩
  rw [← hX] at hW ⊢
  clear HQ hX hR
  obtain ⟨a0, a1, a2⟩ := HK.out W (Below.refl _ _)
  clear hzz
  by_cases g1 : m ≤ 9223372036854775807
  case neg =>
    have hR : R = false := by rw [HOK.out, decide_eq_false g1]; rfl
    have b1 : ((m : Int) ≤ 9223372036854775807) = False := by simp; omega
    subst hR
    go_enter Try.func65, Try.ntmps65
    go_upto_region 1 with fail
    rw [← hW, ← hBB]
    clear hW hBB
    go_wp2_with fail
    go_ret
    exact ⟨rfl, HBW.out⟩
  have b1 : (m : Int) ≤ 9223372036854775807 := by omega
  rcases r1 : rng tn (61 - 1) with _ | _
  · have hR : R = false := by rw [HOK.out, show rng tn 60 = false from r1]; simp
    subst hR
    go_enter Try.func65, Try.ntmps65
    go_upto_region 1 with fail
    rw [← hW, ← hBB]
    clear hW hBB
    go_wp2_with (first
      | (go_at_call 59; with_reducible refine Calls.mono (hw.out _ _ false _ r1) ?_; rintro e w3 ⟨rfl, hh⟩; replace hh := hh.symm; subst hh))
    go_ret
    exact ⟨rfl, HBW.out⟩
  rcases r2 : rng z (5 - 1) with _ | _
  · have hR : R = false := by rw [HOK.out, show rng z 4 = false from r2]; simp
    subst hR
    go_enter Try.func65, Try.ntmps65
    go_upto_region 1 with fail
    rw [← hW, ← hBB]
    clear hW hBB
    go_wp2_with (first
      | (go_at_call 59; with_reducible refine Calls.mono (hw.out _ _ true _ r1) ?_; rintro e w3 ⟨rfl, hh⟩; replace hh := hh.symm; subst hh)
      | (go_at_call 59; with_reducible refine Calls.mono (hw.out _ _ false _ r2) ?_; rintro e w3 ⟨rfl, hh⟩; replace hh := hh.symm; subst hh))
    go_ret
    exact ⟨rfl, HBW.out⟩
  · have hR : R = true := by rw [HOK.out, decide_eq_true g1, show rng tn 60 = true from r1, show rng z 4 = true from r2]; rfl
    subst hR
    go_enter Try.func65, Try.ntmps65
    go_upto_region 1 with fail
    rw [← hW, ← hBB]
    clear hW hBB
    go_wp2_with (first
      | (go_at_call 59; with_reducible refine Calls.mono (hw.out _ _ true _ r1) ?_; rintro e w3 ⟨rfl, hh⟩; replace hh := hh.symm; subst hh)
      | (go_at_call 59; with_reducible refine Calls.mono (hw.out _ _ true _ r2) ?_; rintro e w3 ⟨rfl, hh⟩; replace hh := hh.symm; subst hh))
    go_ret
    exact ⟨rfl, HBW.out⟩
theorem claimed65 (r : Rs) (hm : r.m < 18446744073709551616) (hwn : r.wn ≤ 9223372036854775807 ∧ -9223372036854775808 ≤ r.wn) (w : World) : Calls Try.prog 65 #[.agg r.cells.toArray] w fun e w' => e = .returned (.bool r.ok) ∧ Below w.heap.size w w' := by
  rcases Int.lt_or_eq_of_le hwn.1 with h | h
  · refine claimed65z r hm (r.wn + 1) (by unfold wrap64; omega) ?_ w
    unfold rng
    rw [show decide (-1 ≤ r.wn) = decide (0 ≤ r.wn + 1) by simp; omega, show decide (r.wn < 4) = decide (r.wn + 1 ≤ 4) by simp; omega]
  · refine claimed65z r hm (-9223372036854775808) (by rw [h]; unfold wrap64; omega) ?_ w
    rw [h]; rfl
def claL (r : Rs) : List Nat := if r.ok then r.claim else []
set_option maxRecDepth 100000 in
set_option maxHeartbeats 8000000 in
theorem rclaim31 (r : Rs) (hm : r.m < 18446744073709551616) (hwn : r.wn ≤ 9223372036854775807 ∧ -9223372036854775808 ≤ r.wn) (hl : r.la.length = 32) (ht : r.tg.length = 32) (w : World) :
    Calls Try.prog 31 #[.agg r.cells.toArray] w fun e w' => OutE w w.heap.size (claL r) (resE r) e w' := by
  have hup : Hid (∀ (n : Nat) (p1 : Option Addr) (N1 c1 : Nat) (L : List Nat) (W1 : World), n < 18446744073709551616 → BytesAt W1 (.slice p1 N1 c1) L → N1 = L.length → N1 < 100000000000 → Calls Try.prog 46 #[.slice p1 N1 c1, .int .u64 (n : Int)] W1 fun e w' => NumOk W1 N1 (L ++ sev n) e w') := refNum
  obtain ⟨W, hW⟩ : ∃ W, W = w.alloc (.cells r.cells.toArray 41) := ⟨_, rfl⟩
  obtain ⟨B, hBB⟩ : ∃ B, B = w.heap.size := ⟨_, rfl⟩
  have HBW : Hid (Below w.heap.size w W) := by rw [hW]; exact (Below.refl _ _).alloc (Nat.le_refl _) _
  have HQ : Hid (Blk W B r.cells 41) := by rw [hW, hBB]; exact Blk.new _ _ _
  have HK : Hid (∀ w', Below W.heap.size W w' → w'.cell? ⟨B, 0, none⟩ = some (.int .u64 (r.m : Int)) ∧ w'.cell? ⟨B, 1, none⟩ = some (.int .i64 r.tn) ∧ w'.cell? ⟨B, 2, none⟩ = some (.int .i64 r.wn)) := fun w' hb => by
    have hB := HQ.out.below hb HQ.out.lt
    exact ⟨hB.cell 0, hB.cell 1, hB.cell 2⟩
  have HLA : Hid (∀ w', Below W.heap.size W w' → BytesAt w' (.slice (some ⟨B, 3, none⟩) 32 32) r.la) := fun w' hb => by
    have hB := HQ.out.below hb HQ.out.lt
    exact mid_bytes hB hl (fun i hi => rsC_g3 _ _ _ _ _ hl i hi)
  have h65 := hid (fun W => claimed65 r hm hwn W)
  have HNN : Hid (r.ok = true → r.Nn) := fun h => Rs.nn h hl ht
  have HC0 : Hid (r.ok = false → claL r = [] ∧ resE r = 4) := fun h => by unfold claL resE; rw [h]; exact ⟨rfl, rfl⟩
  have HC1 : Hid (r.ok = true → claL r = sev r.m ++ (sev r.tn.toNat ++ (sev (r.wn + 1).toNat ++ r.la)) ∧ resE r = 0) := fun h => by unfold claL resE; rw [h]; exact ⟨rfl, rfl⟩
  obtain ⟨E, hE⟩ : ∃ E, E = r.cells := ⟨_, rfl⟩
  have hEl : E.length = 67 := by rw [hE]; exact rsC_length _ _ _ _ _ (by rw [List.length_map]; exact hl) (by rw [List.length_map]; exact ht)
  have hi41 : (Try.prog.info? 41).map (·.size) = some E.length := by rw [hEl]; exact size41
  rw [← hE] at hW HQ h65 ⊢
  have hr : W.rangeAt B 0 E := HQ.out.range
  obtain ⟨ok, hok⟩ : ∃ ok, ok = r.ok := ⟨_, rfl⟩
  rw [← hok] at h65 HNN HC0 HC1
  have HL := hid hl
  unfold NumOk at hup
  clear hE hok hEl hl ht
  rcases ok with _ | _
  · obtain ⟨l1, l2⟩ := HC0.out rfl
    rw [l1, l2]
    go_enter Try.func31, Try.ntmps31
    go_upto_region 1 with fail
    rw [← hW, ← hBB]
    clear hW hBB
    go_wp2_with (first
      | ((with_reducible refine wpL_load 41 B 0 E _ ?_ hr Try.underlying41 ?_ hi41 ?_); (rfl); (rfl); (simp only [Act.put, List.setIfInBounds_toArray, List.set_cons_zero, List.set_cons_succ]))
      | (go_at_call 65; refine Calls.mono (h65.out _) ?_; rintro e w2 ⟨rfl, hb2⟩))
    go_ret2
    exact ⟨none, 0, 0, rfl, rfl, OwnB.nil _ _, HBW.out.trans (hb2.mono HBW.out.size)⟩
  · obtain ⟨l1, l2⟩ := HC1.out rfl
    rw [l1, l2]
    obtain ⟨n0, n1, n2, n3, n4, n5, n6⟩ := HNN.out rfl
    obtain ⟨m, tn, wn, la, tg⟩ := r
    simp only at n0 n1 n2 n3 n4 HK HLA HL ⊢
    obtain ⟨tn, rfl⟩ : ∃ n : Nat, tn = (n : Int) := ⟨tn.toNat, by omega⟩
    obtain ⟨wn, rfl⟩ : ∃ n : Nat, wn = (n : Int) - 1 := ⟨(wn + 1).toNat, by omega⟩
    have ew2 : (wn : Int) - 1 + 1 = (wn : Int) := by omega
    have ww : IntKind.i64.wrap ((wn : Int) - 1 + 1) = (wn : Int) := by rw [IntKind.wrap_i64]; omega
    have e0 : ((wn : Int) - 1 + 1).toNat = wn := by omega
    simp only [Int.toNat_natCast, e0]
    clear l1 l2 n5 n6 HC0 HC1 HNN e0
    have htn : tn < 1000 := by omega
    have hwn2 : wn ≤ 1000 := by omega
    go_enter Try.func31, Try.ntmps31
    go_upto_region 1 with fail
    rw [← hW, ← hBB]
    clear hW hBB
    go_wp2_with (first
      | ((with_reducible refine wpL_load 41 B 0 E _ ?_ hr Try.underlying41 ?_ hi41 ?_); (rfl); (rfl); (simp only [Act.put, List.setIfInBounds_toArray, List.set_cons_zero, List.set_cons_succ])))
    refine Calls.mono (h65.out _) ?_
    rintro e w2 ⟨rfl, hb2⟩
    have HB0 := hid hb2
    have HSN := hid (bytes_nil w2)
    clear hb2 hr
    obtain ⟨a0, a1, a2⟩ := HK.out _ HB0.out
    go_wp2_with fail
    refine Calls.mono (hup.out m none 0 0 [] _ (by omega) HSN.out rfl (by omega)) ?_
    rintro e v1 ⟨p1, N1, c1, hN1, rfl, hl1, ho1, hb1⟩
    rw [List.nil_append] at hN1 ho1
    have HB1 := hid (HB0.out.trans (hb1.mono HB0.out.size))
    have HO1 := hid (ho1.mono HB0.out.size)
    have HN1 := hid hN1
    clear ho1 hb1 hN1 a0 a1 a2
    obtain ⟨a0, a1, a2⟩ := HK.out _ HB1.out
    go_wp2_with fail
    refine Calls.mono (hup.out tn p1 N1 c1 (sev m) _ (by omega) HO1.out.bytes HN1.out (by omega)) ?_
    rintro e v2 ⟨p2, N2, c2, hN2, rfl, hl2, ho2, hb2⟩
    have HB2 := hid (HB1.out.trans (hb2.mono HB1.out.size))
    have HO2 := hid (ho2.mono HB1.out.size)
    have HN2 := hid hN2
    clear ho2 hb2 hN2 a0 a1 a2
    obtain ⟨a0, a1, a2⟩ := HK.out _ HB2.out
    go_wp2_with fail
    refine Calls.mono (hup.out wn p2 N2 c2 ((sev m) ++ sev tn) _ (by omega) HO2.out.bytes HN2.out (by omega)) ?_
    rintro e v3 ⟨p3, N3, c3, hN3, rfl, hl3, ho3, hb3⟩
    have HB3 := hid (HB2.out.trans (hb3.mono HB2.out.size))
    have HO3 := hid (ho3.mono HB2.out.size)
    have HN3 := hid hN3
    clear ho3 hb3 hN3 a0 a1 a2
    have hNN : ((sev m ++ sev tn) ++ sev wn).length + la.length = N3 + 32 := by rw [← HN3.out, HL.out]
    have hb3 : N3 + 32 ≤ 1099511627776 := by omega
    have HLW := hid (HLA.out _ HB3.out)
    go_wp2_with (first
      | ((with_reducible refine wpL_append W.heap.size (.slice p3 N3 c3) (.slice (some ⟨B, 3, none⟩) 32 32) ((sev m ++ sev tn) ++ sev wn) la (N3 + 32) hNN ?_ ?_ HO3.out HLW.out hb3 HB3.out.size ?_); (rfl); (rfl); (intro p4 c4 v4 ho4 hb4); (have HO4 := hid (ho4.mono HBW.out.size); have HB4 := hid (HB3.out.trans hb4); clear ho4 hb4); (simp only [Act.put, List.setIfInBounds_toArray, List.set_cons_zero, List.set_cons_succ])))
    go_ret2
    have HF := HO4.out
    simp only [List.append_assoc] at HF
    exact ⟨p4, N3 + 32, c4, by rw [← hNN]; simp only [List.length_append]; omega, rfl, HF, HBW.out.trans (HB4.out.mono HBW.out.size)⟩
end Go.Proofs.Ytpiflgbcbhnmpaa
/- The reference: Result; the program: Claim. -/
namespace Go.Proofs.Ytpiflgbcbhnmpaa
open Go.RowKit
set_option maxRecDepth 100000 in
set_option maxHeartbeats 8000000 in
theorem rresult29 (r : Rs) (hm : r.m < 18446744073709551616) (hwn : r.wn ≤ 9223372036854775807 ∧ -9223372036854775808 ≤ r.wn) (hl : r.la.length = 32) (ht : r.tg.length = 32) (w : World) :
    Calls Try.prog 29 #[.agg r.cells.toArray] w fun e w' => OutE w w.heap.size (resL r) (resE r) e w' := by
  obtain ⟨W, hW⟩ : ∃ W, W = w.alloc (.cells r.cells.toArray 41) := ⟨_, rfl⟩
  obtain ⟨B, hBB⟩ : ∃ B, B = w.heap.size := ⟨_, rfl⟩
  have HBW : Hid (Below w.heap.size w W) := by rw [hW]; exact (Below.refl _ _).alloc (Nat.le_refl _) _
  have HQ : Hid (Blk W B r.cells 41) := by rw [hW, hBB]; exact Blk.new _ _ _
  have HTG : Hid (∀ w', Below W.heap.size W w' → BytesAt w' (.slice (some ⟨B, 35, none⟩) 32 32) r.tg) := fun w' hb => by
    have hB := HQ.out.below hb HQ.out.lt
    exact mid_bytes hB ht (fun i hi => rsC_g35 _ _ _ _ _ hl ht i hi)
  have h31 := hid (rclaim31 r hm hwn hl ht W)
  have HC0 : Hid (r.ok = false → claL r = [] ∧ resE r = 4 ∧ resL r = []) := fun h => by unfold claL resE resL; rw [h]; exact ⟨rfl, rfl, rfl⟩
  have HC1 : Hid (r.ok = true → claL r = r.claim ∧ resE r = 0 ∧ resL r = r.claim ++ r.tg) := fun h => by unfold claL resE resL; rw [h]; exact ⟨rfl, rfl, rfl⟩
  have HCL : Hid (r.ok = true → r.claim.length ≤ 100) := fun h => by
    have hn := Rs.nn h hl ht
    have l1 := sev_len10 hn.m
    have l2 := sev_len10 (n := r.tn.toNat) (by have := hn.t1; omega)
    have l3 := sev_len10 (n := (r.wn + 1).toNat) (by have := hn.w1; omega)
    have := hn.la
    simp only [Rs.claim, List.length_append]; omega
  obtain ⟨E, hE⟩ : ∃ E, E = r.cells := ⟨_, rfl⟩
  have hEl : E.length = 67 := by rw [hE]; exact rsC_length _ _ _ _ _ (by rw [List.length_map]; exact hl) (by rw [List.length_map]; exact ht)
  have hi41 : (Try.prog.info? 41).map (·.size) = some E.length := by rw [hEl]; exact size41
  rw [← hE] at hW HQ h31 ⊢
  have hr : W.rangeAt B 0 E := HQ.out.range
  obtain ⟨ok, hok⟩ : ∃ ok, ok = r.ok := ⟨_, rfl⟩
  rw [← hok] at HC0 HC1 HCL
  have HL := hid ht
  unfold OutE at h31
  clear hE hok hEl hl ht hm hwn
  generalize r.claim = CC at *
  generalize r.tg = TG at *
  rcases ok with _ | _
  · obtain ⟨l1, l2, l3⟩ := HC0.out rfl
    rw [l1, l2] at h31
    rw [l2, l3]
    clear l1 l2 l3 HC0 HC1
    go_enter Try.func29, Try.ntmps29
    go_upto_region 1 with fail
    rw [← hW, ← hBB]
    clear hW hBB
    go_wp2_with (first
      | ((with_reducible refine wpL_load 41 B 0 E _ ?_ hr Try.underlying41 ?_ hi41 ?_); (rfl); (rfl); (simp only [Act.put, List.setIfInBounds_toArray, List.set_cons_zero, List.set_cons_succ])))
    refine Calls.mono h31.out ?_
    rintro e w2 ⟨p2, N2, c2, hN2, rfl, ho2, hb2⟩
    have HB2 := hid hb2
    clear hN2 ho2 hb2 hr
    go_wp2_with fail
    go_ret2
    exact ⟨none, 0, 0, rfl, rfl, OwnB.nil _ _, HBW.out.trans (HB2.out.mono HBW.out.size)⟩
  · obtain ⟨l1, l2, l3⟩ := HC1.out rfl
    rw [l1, l2] at h31
    rw [l2, l3]
    have hcl := HCL.out rfl
    clear l1 l2 l3 HC0 HC1 HCL
    go_enter Try.func29, Try.ntmps29
    go_upto_region 1 with fail
    rw [← hW, ← hBB]
    clear hW hBB
    go_wp2_with (first
      | ((with_reducible refine wpL_load 41 B 0 E _ ?_ hr Try.underlying41 ?_ hi41 ?_); (rfl); (rfl); (simp only [Act.put, List.setIfInBounds_toArray, List.set_cons_zero, List.set_cons_succ])))
    refine Calls.mono h31.out ?_
    rintro e w2 ⟨p2, N2, c2, hN2, rfl, ho2, hb2⟩
    have HB2 := hid hb2
    have HO2 := hid ho2
    have hNN : CC.length + TG.length = N2 + 32 := by rw [← hN2, HL.out]
    have hb3 : N2 + 32 ≤ 1099511627776 := by omega
    have HTW := hid (HTG.out _ HB2.out)
    clear hN2 ho2 hb2 hr
    go_wp2_with (first
      | ((with_reducible refine wpL_append W.heap.size (.slice p2 N2 c2) (.slice (some ⟨B, 35, none⟩) 32 32) CC TG (N2 + 32) hNN ?_ ?_ HO2.out HTW.out hb3 HB2.out.size ?_); (rfl); (rfl); (intro p4 c4 v4 ho4 hb4); (have HO4 := hid (ho4.mono HBW.out.size); have HB4 := hid (HB2.out.trans hb4); clear ho4 hb4); (simp only [Act.put, List.setIfInBounds_toArray, List.set_cons_zero, List.set_cons_succ])))
    go_ret2
    exact ⟨p4, N2 + 32, c4, by rw [← hNN, List.length_append], rfl, HO4.out, HBW.out.trans (HB4.out.mono HBW.out.size)⟩
set_option maxRecDepth 100000 in
set_option maxHeartbeats 4000000 in
theorem claim30 (r : Rs) (hm : r.m < 18446744073709551616) (hl : r.la.length = 32) (ht : r.tg.length = 32) (w : World) :
    Calls Try.prog 30 #[.agg r.cells.toArray] w fun e w' => OutE w w.heap.size (claL r) (resE r) e w' := by
  have hal : Below w.heap.size w (w.alloc (.cells r.cells.toArray 41)) := (Below.refl _ _).alloc (Nat.le_refl _) _
  have hbx := Blk.new w r.cells 41
  have h51 := hid (resultFormed63 r hm (w.alloc (.cells r.cells.toArray 41)))
  have h52 := hid (show r.ok = true → ∀ W, Below w.heap.size w W → Calls Try.prog 64 #[.slice none 0 0, .agg r.cells.toArray] W fun e w' => OutG W (.slice none 0 0) w.heap.size r.claim e w' from fun hok W hW => by
    have hn := Rs.nn hok hl ht
    have h9 := appendClaim64 r hn [] w.heap.size none 0 0 W rfl (OwnB.nil _ _) hW.size (by omega)
    rw [List.nil_append] at h9
    exact h9)
  have HL := hid (show ∀ b, b = r.ok → claL r = (if b then r.claim else []) ∧ resE r = (if b then 0 else 4) from fun b hb => by subst hb; exact ⟨rfl, rfl⟩)
  obtain ⟨E, hE⟩ : ∃ E, E = r.cells := ⟨_, rfl⟩
  have hEl : E.length = 67 := by rw [hE]; exact rsC_length _ _ _ _ _ (by rw [List.length_map]; exact hl) (by rw [List.length_map]; exact ht)
  have hi41 : (Try.prog.info? 41).map (·.size) = some E.length := by rw [hEl]; exact size41
  rw [← hE] at h51 h52 hbx hal ⊢
  obtain ⟨ok, hok⟩ : ∃ ok, ok = r.ok := ⟨_, rfl⟩
  rw [← hok] at h51 h52
  obtain ⟨l1, l2⟩ := HL.out ok hok
  rw [l1, l2]
  have HAL := hid hal
  have HBX := hid hbx
  have hr := hbx.range
  generalize r.claim = CC at *
  clear hE hal hbx HL l1 l2 hok ht hl hm
  rcases ok with _ | _
  · go_enter Try.func30, Try.ntmps30
    go_wp2_with (first
      | ((with_reducible refine wpL_load 41 w.heap.size 0 E _ ?_ hr Try.underlying41 ?_ hi41 ?_); (rfl); (rfl); (simp only [Act.put, List.setIfInBounds_toArray, List.set_cons_zero, List.set_cons_succ]))
      | (go_at_call 63; refine Calls.mono h51.out ?_; rintro e w2 ⟨rfl, hb2⟩))
    go_ret2
    exact ⟨none, 0, 0, rfl, rfl, OwnB.nil _ _, HAL.out.trans (hb2.mono HAL.out.size)⟩
  · go_enter Try.func30, Try.ntmps30
    go_upto_region 1 with (fail)
    generalize w.alloc (.cells E.toArray 41) = W at *
    go_wp2_with (first
      | ((with_reducible refine wpL_load 41 w.heap.size 0 E _ ?_ hr Try.underlying41 ?_ hi41 ?_); (rfl); (rfl); (simp only [Act.put, List.setIfInBounds_toArray, List.set_cons_zero, List.set_cons_succ])))
    refine Calls.mono h51.out ?_
    rintro e w2 ⟨rfl, hb2⟩
    have hr2 := (HBX.out.below hb2 HBX.out.lt).range
    have hbe2 := HAL.out.trans (hb2.mono HAL.out.size)
    have h5 := hid (h52.out (by first | exact rfl | trivial) w2 hbe2)
    have HBE2 := hid hbe2
    clear hr h52 h51 hb2 hbe2
    go_wp2_with (first
      | ((with_reducible refine wpL_load 41 w.heap.size 0 E _ ?_ hr2 Try.underlying41 ?_ hi41 ?_); (rfl); (rfl); (simp only [Act.put, List.setIfInBounds_toArray, List.set_cons_zero, List.set_cons_succ])))
    refine Calls.mono h5.out ?_
    rintro e w3 ⟨p3, N3, c3, hN3, rfl, ho3, hg3⟩
    have HN3 := hid hN3
    have HB3 := hid (HBE2.out.trans (hg3.below (OwnB.nil w2 w.heap.size) HBE2.out.size))
    clear hN3 hg3
    go_wp2_with fail
    go_ret2
    exact ⟨p3, N3, c3, HN3.out, rfl, ho3, HB3.out⟩
end Go.Proofs.Ytpiflgbcbhnmpaa
