/- The reference: Result; the program: Claim. -/
import Derived.Test.YtpiflgbcbhnmpaaRres2
namespace Go.Proofs.Ytpiflgbcbhnmpaa
open Go.RowKit
set_option maxRecDepth 100000 in
set_option maxHeartbeats 8000000 in
theorem rresult29 (r : Rs) (hm : r.m < 18446744073709551616) (hwn : r.wn ≤ 9223372036854775807 ∧ -9223372036854775808 ≤ r.wn) (hl : r.la.length = 32) (ht : r.tg.length = 32) (w : World) :
    Calls Try.prog 29 #[.agg r.cells.toArray] w fun e w' => OutE w w.heap.size (resL r) (resE r) e w' := by
  obtain ⟨W, hW⟩ : ∃ W, W = w.alloc (.cells r.cells.toArray 41) := ⟨_, rfl⟩
  obtain ⟨B, hBB⟩ : ∃ B, B = w.heap.size := ⟨_, rfl⟩
  have HBW : Hid (Below w.heap.size w W) := by rw [hW]; exact (Below.refl _ _).alloc (Nat.le_refl _) _
  have HQ : Hid (Blk W B r.cells 41) := by rw [hW, hBB]; exact Blk.new _ _ _
  have HTG : Hid (∀ w', Below W.heap.size W w' → BytesAt w' (.slice (some ⟨B, 35, none⟩) 32 32) r.tg) := fun w' hb => by
    have hB := HQ.out.below hb HQ.out.lt
    exact mid_bytes hB ht (fun i hi => rsC_g35 _ _ _ _ _ hl ht i hi)
  have h31 := hid (rclaim31 r hm hwn hl ht W)
  have HC0 : Hid (r.ok = false → claL r = [] ∧ resE r = 4 ∧ resL r = []) := fun h => by unfold claL resE resL; rw [h]; exact ⟨rfl, rfl, rfl⟩
  have HC1 : Hid (r.ok = true → claL r = r.claim ∧ resE r = 0 ∧ resL r = r.claim ++ r.tg) := fun h => by unfold claL resE resL; rw [h]; exact ⟨rfl, rfl, rfl⟩
  have HCL : Hid (r.ok = true → r.claim.length ≤ 100) := fun h => by
    have hn := Rs.nn h hl ht
    have l1 := sev_len10 hn.m
    have l2 := sev_len10 (n := r.tn.toNat) (by have := hn.t1; omega)
    have l3 := sev_len10 (n := (r.wn + 1).toNat) (by have := hn.w1; omega)
    have := hn.la
    simp only [Rs.claim, List.length_append]; omega
  obtain ⟨E, hE⟩ : ∃ E, E = r.cells := ⟨_, rfl⟩
  have hEl : E.length = 67 := by rw [hE]; exact rsC_length _ _ _ _ _ (by rw [List.length_map]; exact hl) (by rw [List.length_map]; exact ht)
  have hi41 : (Try.prog.info? 41).map (·.size) = some E.length := by rw [hEl]; exact size41
  rw [← hE] at hW HQ h31 ⊢
  have hr : W.rangeAt B 0 E := HQ.out.range
  obtain ⟨ok, hok⟩ : ∃ ok, ok = r.ok := ⟨_, rfl⟩
  rw [← hok] at HC0 HC1 HCL
  have HL := hid ht
  unfold OutE at h31
  clear hE hok hEl hl ht hm hwn
  generalize r.claim = CC at *
  generalize r.tg = TG at *
  rcases ok with _ | _
  · obtain ⟨l1, l2, l3⟩ := HC0.out rfl
    rw [l1, l2] at h31
    rw [l2, l3]
    clear l1 l2 l3 HC0 HC1
    go_enter Try.func29, Try.ntmps29
    go_upto_region 1 with fail
    rw [← hW, ← hBB]
    clear hW hBB
    go_wp2_with (first
      | ((with_reducible refine wpL_load 41 B 0 E _ ?_ hr Try.underlying41 ?_ hi41 ?_); (rfl); (rfl); (simp only [Act.put, List.setIfInBounds_toArray, List.set_cons_zero, List.set_cons_succ])))
    refine Calls.mono h31.out ?_
    rintro e w2 ⟨p2, N2, c2, hN2, rfl, ho2, hb2⟩
    have HB2 := hid hb2
    clear hN2 ho2 hb2 hr
    go_wp2_with fail
    go_ret2
    exact ⟨none, 0, 0, rfl, rfl, OwnB.nil _ _, HBW.out.trans (HB2.out.mono HBW.out.size)⟩
  · obtain ⟨l1, l2, l3⟩ := HC1.out rfl
    rw [l1, l2] at h31
    rw [l2, l3]
    have hcl := HCL.out rfl
    clear l1 l2 l3 HC0 HC1 HCL
    go_enter Try.func29, Try.ntmps29
    go_upto_region 1 with fail
    rw [← hW, ← hBB]
    clear hW hBB
    go_wp2_with (first
      | ((with_reducible refine wpL_load 41 B 0 E _ ?_ hr Try.underlying41 ?_ hi41 ?_); (rfl); (rfl); (simp only [Act.put, List.setIfInBounds_toArray, List.set_cons_zero, List.set_cons_succ])))
    refine Calls.mono h31.out ?_
    rintro e w2 ⟨p2, N2, c2, hN2, rfl, ho2, hb2⟩
    have HB2 := hid hb2
    have HO2 := hid ho2
    have hNN : CC.length + TG.length = N2 + 32 := by rw [← hN2, HL.out]
    have hb3 : N2 + 32 ≤ 1099511627776 := by omega
    have HTW := hid (HTG.out _ HB2.out)
    clear hN2 ho2 hb2 hr
    go_wp2_with (first
      | ((with_reducible refine wpL_append W.heap.size (.slice p2 N2 c2) (.slice (some ⟨B, 35, none⟩) 32 32) CC TG (N2 + 32) hNN ?_ ?_ HO2.out HTW.out hb3 HB2.out.size ?_); (rfl); (rfl); (intro p4 c4 v4 ho4 hb4); (have HO4 := hid (ho4.mono HBW.out.size); have HB4 := hid (HB2.out.trans hb4); clear ho4 hb4); (simp only [Act.put, List.setIfInBounds_toArray, List.set_cons_zero, List.set_cons_succ])))
    go_ret2
    exact ⟨p4, N2 + 32, c4, by rw [← hNN, List.length_append], rfl, HO4.out, HBW.out.trans (HB4.out.mono HBW.out.size)⟩
set_option maxRecDepth 100000 in
set_option maxHeartbeats 4000000 in
theorem claim30 (r : Rs) (hm : r.m < 18446744073709551616) (hl : r.la.length = 32) (ht : r.tg.length = 32) (w : World) :
    Calls Try.prog 30 #[.agg r.cells.toArray] w fun e w' => OutE w w.heap.size (claL r) (resE r) e w' := by
  have hal : Below w.heap.size w (w.alloc (.cells r.cells.toArray 41)) := (Below.refl _ _).alloc (Nat.le_refl _) _
  have hbx := Blk.new w r.cells 41
  have h51 := hid (resultFormed63 r hm (w.alloc (.cells r.cells.toArray 41)))
  have h52 := hid (show r.ok = true → ∀ W, Below w.heap.size w W → Calls Try.prog 64 #[.slice none 0 0, .agg r.cells.toArray] W fun e w' => OutG W (.slice none 0 0) w.heap.size r.claim e w' from fun hok W hW => by
    have hn := Rs.nn hok hl ht
    have h9 := appendClaim64 r hn [] w.heap.size none 0 0 W rfl (OwnB.nil _ _) hW.size (by omega)
    rw [List.nil_append] at h9
    exact h9)
  have HL := hid (show ∀ b, b = r.ok → claL r = (if b then r.claim else []) ∧ resE r = (if b then 0 else 4) from fun b hb => by subst hb; exact ⟨rfl, rfl⟩)
  obtain ⟨E, hE⟩ : ∃ E, E = r.cells := ⟨_, rfl⟩
  have hEl : E.length = 67 := by rw [hE]; exact rsC_length _ _ _ _ _ (by rw [List.length_map]; exact hl) (by rw [List.length_map]; exact ht)
  have hi41 : (Try.prog.info? 41).map (·.size) = some E.length := by rw [hEl]; exact size41
  rw [← hE] at h51 h52 hbx hal ⊢
  obtain ⟨ok, hok⟩ : ∃ ok, ok = r.ok := ⟨_, rfl⟩
  rw [← hok] at h51 h52
  obtain ⟨l1, l2⟩ := HL.out ok hok
  rw [l1, l2]
  have HAL := hid hal
  have HBX := hid hbx
  have hr := hbx.range
  generalize r.claim = CC at *
  clear hE hal hbx HL l1 l2 hok ht hl hm
  rcases ok with _ | _
  · go_enter Try.func30, Try.ntmps30
    go_wp2_with (first
      | ((with_reducible refine wpL_load 41 w.heap.size 0 E _ ?_ hr Try.underlying41 ?_ hi41 ?_); (rfl); (rfl); (simp only [Act.put, List.setIfInBounds_toArray, List.set_cons_zero, List.set_cons_succ]))
      | (go_at_call 63; refine Calls.mono h51.out ?_; rintro e w2 ⟨rfl, hb2⟩))
    go_ret2
    exact ⟨none, 0, 0, rfl, rfl, OwnB.nil _ _, HAL.out.trans (hb2.mono HAL.out.size)⟩
  · go_enter Try.func30, Try.ntmps30
    go_upto_region 1 with (fail)
    generalize w.alloc (.cells E.toArray 41) = W at *
    go_wp2_with (first
      | ((with_reducible refine wpL_load 41 w.heap.size 0 E _ ?_ hr Try.underlying41 ?_ hi41 ?_); (rfl); (rfl); (simp only [Act.put, List.setIfInBounds_toArray, List.set_cons_zero, List.set_cons_succ])))
    refine Calls.mono h51.out ?_
    rintro e w2 ⟨rfl, hb2⟩
    have hr2 := (HBX.out.below hb2 HBX.out.lt).range
    have hbe2 := HAL.out.trans (hb2.mono HAL.out.size)
    have h5 := hid (h52.out (by first | exact rfl | trivial) w2 hbe2)
    have HBE2 := hid hbe2
    clear hr h52 h51 hb2 hbe2
    go_wp2_with (first
      | ((with_reducible refine wpL_load 41 w.heap.size 0 E _ ?_ hr2 Try.underlying41 ?_ hi41 ?_); (rfl); (rfl); (simp only [Act.put, List.setIfInBounds_toArray, List.set_cons_zero, List.set_cons_succ])))
    refine Calls.mono h5.out ?_
    rintro e w3 ⟨p3, N3, c3, hN3, rfl, ho3, hg3⟩
    have HN3 := hid hN3
    have HB3 := hid (HBE2.out.trans (hg3.below (OwnB.nil w2 w.heap.size) HBE2.out.size))
    clear hN3 hg3
    go_wp2_with fail
    go_ret2
    exact ⟨p3, N3, c3, HN3.out, rfl, ho3, HB3.out⟩
end Go.Proofs.Ytpiflgbcbhnmpaa
