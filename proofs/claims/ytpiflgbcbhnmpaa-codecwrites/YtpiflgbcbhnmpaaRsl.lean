/- Body and Sealed of the reference, the program's Body. -/
import Derived.Test.YtpiflgbcbhnmpaaRbod
namespace Go.Proofs.Ytpiflgbcbhnmpaa
open Go.RowKit
def bodL (d : Sd) : List Nat := if d.ok then d.body else []
set_option maxRecDepth 100000 in
set_option maxHeartbeats 4000000 in
theorem body22 (d : Sd) (hm : d.m < 18446744073709551616) (ht : d.tag.length = 32) (q : Option Addr) (N qc : Nat) (hN : N = d.cs.length) (hNb : N < 1000000000) (w : World) (hC : CmdsAt w (.slice q N qc) d.cs) (hq : 0 < N → ∀ a, q = some a → a.block < w.heap.size) :
    Calls Try.prog 22 #[.agg (d.cells (.slice q N qc)).toArray] w fun e w' => OutE w w.heap.size (bodL d) (sldE d) e w' := by
  have hal : Below w.heap.size w (w.alloc (.cells (d.cells (.slice q N qc)).toArray 47)) := (Below.refl _ _).alloc (Nat.le_refl _) _
  have hbx := Blk.new w (d.cells (.slice q N qc)) 47
  have h51 := hid (sealedFormed51 d hm q N qc (w.alloc (.cells (d.cells (.slice q N qc)).toArray 47)) hN (hC.below hal) hNb)
  have h52 := hid (show d.ok = true → ∀ W, Below w.heap.size w W → Calls Try.prog 55 #[.slice none 0 0, .agg (d.cells (.slice q N qc)).toArray] W fun e w' => OutB W w.heap.size d.body e w' ∧ d.body.length ≤ 61000 from fun hok W hW => by
    have h9 := appendBody55 d (Sd.nn hok ht) q N qc hN [] w.heap.size none 0 0 W rfl (OwnB.nil _ _) hW.size (by omega) (hC.below hW) (fun hn a ha => ⟨by simp [Value.ownBlock], Nat.lt_of_lt_of_le (hq hn a ha) hW.size⟩)
    rw [List.nil_append] at h9
    exact h9.mono fun _ _ ⟨p2, N2, c2, a1, a2, a3, a4⟩ => ⟨⟨p2, N2, c2, a1, a2, a3, a4.below (OwnB.nil W w.heap.size) hW.size⟩, body_len (Sd.nn hok ht)⟩)
  have HL := hid (show ∀ b, b = d.ok → bodL d = (if b then d.body else []) ∧ sldE d = (if b then 0 else 4) from fun b hb => by subst hb; exact ⟨rfl, rfl⟩)
  obtain ⟨E, hE⟩ : ∃ E, E = d.cells (.slice q N qc) := ⟨_, rfl⟩
  have hEl : E.length = 37 := by rw [hE]; simp [Sd.cells, ht]
  have hi47 : (Try.prog.info? 47).map (·.size) = some E.length := by rw [hEl]; exact size47
  rw [← hE] at h51 h52 hbx hal ⊢
  obtain ⟨ok, hok⟩ : ∃ ok, ok = d.ok := ⟨_, rfl⟩
  rw [← hok] at h51 h52
  obtain ⟨l1, l2⟩ := HL.out ok hok
  rw [l1, l2]
  have HAL := hid hal
  have HBX := hid hbx
  have hr := hbx.range
  generalize d.body = BB at *
  clear hE hC hq hN hal hbx HL l1 l2 hok
  rcases ok with _ | _
  · go_enter Try.func22, Try.ntmps22
    go_wp2_with (first
      | ((with_reducible refine wpL_load 47 w.heap.size 0 E _ ?_ hr Try.underlying47 ?_ hi47 ?_); (rfl); (rfl); (simp only [Act.put, List.setIfInBounds_toArray, List.set_cons_zero, List.set_cons_succ]))
      | (go_at_call 51; refine Calls.mono h51.out ?_; rintro e w2 ⟨rfl, hb2⟩))
    go_ret2
    exact ⟨none, 0, 0, rfl, rfl, OwnB.nil _ _, HAL.out.trans (hb2.mono HAL.out.size)⟩
  · go_enter Try.func22, Try.ntmps22
    go_upto_region 1 with (fail)
    generalize w.alloc (.cells E.toArray 47) = W at *
    go_wp2_with (first
      | ((with_reducible refine wpL_load 47 w.heap.size 0 E _ ?_ hr Try.underlying47 ?_ hi47 ?_); (rfl); (rfl); (simp only [Act.put, List.setIfInBounds_toArray, List.set_cons_zero, List.set_cons_succ])))
    refine Calls.mono h51.out ?_
    rintro e w2 ⟨rfl, hb2⟩
    have hr2 := (HBX.out.below hb2 HBX.out.lt).range
    have hbe2 := HAL.out.trans (hb2.mono HAL.out.size)
    have h5 := hid (h52.out (by first | exact rfl | trivial) w2 hbe2)
    have HBE2 := hid hbe2
    clear hr h52 h51 hb2 hbe2
    go_wp2_with (first
      | ((with_reducible refine wpL_load 47 w.heap.size 0 E _ ?_ hr2 Try.underlying47 ?_ hi47 ?_); (rfl); (rfl); (simp only [Act.put, List.setIfInBounds_toArray, List.set_cons_zero, List.set_cons_succ])))
    refine Calls.mono h5.out ?_
    rintro e w3 ⟨⟨p3, N3, c3, hN3, rfl, ho3, hg3⟩, hl3⟩
    have HN3 := hid hN3
    have HB3 := hid (HBE2.out.trans hg3)
    clear hN3 hg3
    go_wp2_with fail
    go_ret2
    exact ⟨p3, N3, c3, HN3.out, rfl, ho3, HB3.out⟩
set_option maxRecDepth 100000 in
set_option maxHeartbeats 4000000 in
theorem rbody23 (d : Sd) (hm : d.m < 18446744073709551616) (ht : d.tag.length = 32) (q : Option Addr) (N qc : Nat) (hN : N = d.cs.length) (hNb : N < 1000000000) (w : World) (hC : CmdsAt w (.slice q N qc) d.cs) :
    Calls Try.prog 23 #[.agg (d.cells (.slice q N qc)).toArray] w fun e w' => OutE w w.heap.size (bodL d) (sldE d) e w' := by
  have hal : Below w.heap.size w (w.alloc (.cells (d.cells (.slice q N qc)).toArray 47)) := (Below.refl _ _).alloc (Nat.le_refl _) _
  have hbx := Blk.new w (d.cells (.slice q N qc)) 47
  have h51 := hid (rsealed53 d hm q N qc (w.alloc (.cells (d.cells (.slice q N qc)).toArray 47)) hN (hC.below hal) hNb)
  have h52 := hid (show d.ok = true → ∀ W, Below w.heap.size w W → Calls Try.prog 54 #[.slice none 0 0, .agg (d.cells (.slice q N qc)).toArray] W fun e w' => OutB W w.heap.size d.body e w' ∧ d.body.length ≤ 61000 from fun hok W hW => by
    have h9 := rbody54 d (Sd.nn hok ht) q N qc hN [] none 0 0 W rfl (bytes_nil W) (by omega) (hC.below hW)
    rw [List.nil_append] at h9
    exact h9.mono fun _ _ ⟨p2, N2, c2, a1, a2, a3, a4⟩ => ⟨⟨p2, N2, c2, a1, a2, a3.mono hW.size, a4.mono hW.size⟩, body_len (Sd.nn hok ht)⟩)
  have HL := hid (show ∀ b, b = d.ok → bodL d = (if b then d.body else []) ∧ sldE d = (if b then 0 else 4) from fun b hb => by subst hb; exact ⟨rfl, rfl⟩)
  obtain ⟨E, hE⟩ : ∃ E, E = d.cells (.slice q N qc) := ⟨_, rfl⟩
  have hEl : E.length = 37 := by rw [hE]; simp [Sd.cells, ht]
  have hi47 : (Try.prog.info? 47).map (·.size) = some E.length := by rw [hEl]; exact size47
  rw [← hE] at h51 h52 hbx hal ⊢
  obtain ⟨ok, hok⟩ : ∃ ok, ok = d.ok := ⟨_, rfl⟩
  rw [← hok] at h51 h52
  obtain ⟨l1, l2⟩ := HL.out ok hok
  rw [l1, l2]
  have HAL := hid hal
  have HBX := hid hbx
  have hr := hbx.range
  generalize d.body = BB at *
  clear hE hC hN hal hbx HL l1 l2 hok
  rcases ok with _ | _
  · go_enter Try.func23, Try.ntmps23
    go_wp2_with (first
      | ((with_reducible refine wpL_load 47 w.heap.size 0 E _ ?_ hr Try.underlying47 ?_ hi47 ?_); (rfl); (rfl); (simp only [Act.put, List.setIfInBounds_toArray, List.set_cons_zero, List.set_cons_succ]))
      | (go_at_call 53; refine Calls.mono h51.out ?_; rintro e w2 ⟨rfl, hb2⟩))
    go_ret2
    exact ⟨none, 0, 0, rfl, rfl, OwnB.nil _ _, HAL.out.trans (hb2.mono HAL.out.size)⟩
  · go_enter Try.func23, Try.ntmps23
    go_upto_region 1 with (fail)
    generalize w.alloc (.cells E.toArray 47) = W at *
    go_wp2_with (first
      | ((with_reducible refine wpL_load 47 w.heap.size 0 E _ ?_ hr Try.underlying47 ?_ hi47 ?_); (rfl); (rfl); (simp only [Act.put, List.setIfInBounds_toArray, List.set_cons_zero, List.set_cons_succ])))
    refine Calls.mono h51.out ?_
    rintro e w2 ⟨rfl, hb2⟩
    have hr2 := (HBX.out.below hb2 HBX.out.lt).range
    have hbe2 := HAL.out.trans (hb2.mono HAL.out.size)
    have h5 := hid (h52.out (by first | exact rfl | trivial) w2 hbe2)
    have HBE2 := hid hbe2
    clear hr h52 h51 hb2 hbe2
    go_wp2_with (first
      | ((with_reducible refine wpL_load 47 w.heap.size 0 E _ ?_ hr2 Try.underlying47 ?_ hi47 ?_); (rfl); (rfl); (simp only [Act.put, List.setIfInBounds_toArray, List.set_cons_zero, List.set_cons_succ])))
    refine Calls.mono h5.out ?_
    rintro e w3 ⟨⟨p3, N3, c3, hN3, rfl, ho3, hg3⟩, hl3⟩
    have HN3 := hid hN3
    have HB3 := hid (HBE2.out.trans hg3)
    clear hN3 hg3
    go_wp2_with fail
    go_ret2
    exact ⟨p3, N3, c3, HN3.out, rfl, ho3, HB3.out⟩
set_option maxRecDepth 100000 in
set_option maxHeartbeats 4000000 in
theorem rsealed21 (d : Sd) (hm : d.m < 18446744073709551616) (ht : d.tag.length = 32) (q : Option Addr) (N qc : Nat) (hN : N = d.cs.length) (hNb : N < 1000000000) (w : World) (hC : CmdsAt w (.slice q N qc) d.cs) :
    Calls Try.prog 21 #[.agg (d.cells (.slice q N qc)).toArray] w fun e w' => OutE w w.heap.size (sldL d) (sldE d) e w' := by
  have hal : Below w.heap.size w (w.alloc (.cells (d.cells (.slice q N qc)).toArray 47)) := (Below.refl _ _).alloc (Nat.le_refl _) _
  have hbx := Blk.new w (d.cells (.slice q N qc)) 47
  have h51 := hid (rsealed53 d hm q N qc (w.alloc (.cells (d.cells (.slice q N qc)).toArray 47)) hN (hC.below hal) hNb)
  have h52 := hid (show d.ok = true → ∀ W, Below w.heap.size w W → Calls Try.prog 54 #[.slice none 0 0, .agg (d.cells (.slice q N qc)).toArray] W fun e w' => (∃ p N cap, N = d.body.length ∧ e = .returned (.slice p N cap) ∧ OwnB w' w.heap.size (.slice p N cap) d.body ∧ Below W.heap.size W w') ∧ d.body.length ≤ 61000 from fun hok W hW => by
    have h9 := rbody54 d (Sd.nn hok ht) q N qc hN [] none 0 0 W rfl (bytes_nil W) (by omega) (hC.below hW)
    rw [List.nil_append] at h9
    exact h9.mono fun _ _ ⟨p2, N2, c2, a1, a2, a3, a4⟩ => ⟨⟨p2, N2, c2, a1, a2, a3.mono hW.size, a4⟩, body_len (Sd.nn hok ht)⟩)
  have HL := hid (show ∀ b, b = d.ok → sldL d = (if b then d.body ++ d.tag else []) ∧ sldE d = (if b then 0 else 4) from fun b hb => by subst hb; exact ⟨rfl, rfl⟩)
  obtain ⟨E, hE⟩ : ∃ E, E = d.cells (.slice q N qc) := ⟨_, rfl⟩
  have hEl : E.length = 37 := by rw [hE]; simp [Sd.cells, ht]
  have hi47 : (Try.prog.info? 47).map (·.size) = some E.length := by rw [hEl]; exact size47
  have HT := hid (show ∀ W, Blk W w.heap.size E 47 → BytesAt W (.slice (some ⟨w.heap.size, 5, none⟩) 32 32) d.tag from fun W h => by rw [hE] at h; exact tag_bytes h ht)
  rw [← hE] at h51 h52 hbx hal ⊢
  obtain ⟨ok, hok⟩ : ∃ ok, ok = d.ok := ⟨_, rfl⟩
  rw [← hok] at h51 h52
  obtain ⟨l1, l2⟩ := HL.out ok hok
  rw [l1, l2]
  have HAL := hid hal
  have HBX := hid hbx
  have hr := hbx.range
  have htl := hid ht
  generalize d.body = BB at *
  generalize d.tag = TG at *
  clear hE hC hN hal hbx HL l1 l2 hok ht
  rcases ok with _ | _
  · go_enter Try.func21, Try.ntmps21
    go_wp2_with (first
      | ((with_reducible refine wpL_load 47 w.heap.size 0 E _ ?_ hr Try.underlying47 ?_ hi47 ?_); (rfl); (rfl); (simp only [Act.put, List.setIfInBounds_toArray, List.set_cons_zero, List.set_cons_succ]))
      | (go_at_call 53; refine Calls.mono h51.out ?_; rintro e w2 ⟨rfl, hb2⟩))
    go_ret2
    exact ⟨none, 0, 0, rfl, rfl, OwnB.nil _ _, HAL.out.trans (hb2.mono HAL.out.size)⟩
  · go_enter Try.func21, Try.ntmps21
    go_upto_region 1 with (fail)
    generalize w.alloc (.cells E.toArray 47) = W at *
    go_wp2_with (first
      | ((with_reducible refine wpL_load 47 w.heap.size 0 E _ ?_ hr Try.underlying47 ?_ hi47 ?_); (rfl); (rfl); (simp only [Act.put, List.setIfInBounds_toArray, List.set_cons_zero, List.set_cons_succ])))
    refine Calls.mono h51.out ?_
    rintro e w2 ⟨rfl, hb2⟩
    have hbx2 := HBX.out.below hb2 HBX.out.lt
    have hr2 : w2.drew.rangeAt w.heap.size 0 E := hbx2.drew.range
    have hbe2 := HAL.out.trans (hb2.mono HAL.out.size)
    have h5 := hid (h52.out (by first | exact rfl | trivial) w2.drew hbe2.drew)
    have HBE2 := hid hbe2
    have HBX2 := hid hbx2
    clear hr h52 h51 hb2 hbe2 hbx2
    go_upto_region 3 with (fail)
    refine wp_region_noPanic ?_
    refine wp_region_any (by kernel_rfl) ?_
    change wpAny _ _ _ _ _ _ _ (World.drew _)
    refine take_op (i := 2) (.pointer (some ⟨w.heap.size, 5, none⟩)) (by exact rfl) (by kernel_rfl) (by kernel_rfl) (by kernel_rfl) (fun _ _ _ h => h) (fun w => by go_simp) ?_
    simp only [Act.put, List.setIfInBounds_toArray, List.set_cons_zero, List.set_cons_succ]
    refine take_op (i := 3) (.slice (some ⟨w.heap.size, 5, none⟩) 32 32) (by exact rfl) (by kernel_rfl) (by kernel_rfl) (by kernel_rfl) (fun _ _ _ h => h) (fun w => by go_simp) ?_
    simp only [Act.put, List.setIfInBounds_toArray, List.set_cons_zero, List.set_cons_succ]
    refine wpAny_ready (rs := [0]) (by kernel_rfl) (by simp) ?_
    refine ready_load 47 w.heap.size 0 E _ (by exact rfl) (by go_simp) hr2 Try.underlying47 rfl hi47 ?_ AllReady.nil
    simp only [Act.put, List.setIfInBounds_toArray, List.set_cons_zero, List.set_cons_succ]
    refine wpAny_ready (rs := [1]) (by kernel_rfl) (by simp) ?_
    refine ready_call 54 _ _ #[.slice none 0 0, .agg E.toArray] (by exact rfl) (by go_simp) (by go_simp) ?_ AllReady.nil
    refine Calls.mono h5.out ?_
    rintro e w3 ⟨⟨p3, N3, c3, hN3, rfl, ho3, hg3⟩, hcl⟩
    refine ⟨_, rfl, ?_⟩
    simp only [Act.put, List.setIfInBounds_toArray, List.set_cons_zero, List.set_cons_succ]
    have hbx3 := HBX2.out.drew.below hg3 HBX2.out.lt
    have hT3 := HT.out w3 hbx3
    have hlo3 : w.heap.size ≤ w3.heap.size := Nat.le_trans HBE2.out.size hg3.size
    have hNN : BB.length + TG.length = N3 + 32 := by rw [← hN3, htl.out]
    have hb3 : N3 + 32 ≤ 1099511627776 := by omega
    have hne : TG ≠ [] := by intro h; have := htl.out; rw [h] at this; simp at this
    have HB3 := hid (HBE2.out.drew.trans (hg3.mono HBE2.out.size))
    have HN3 := hid hN3
    clear hN3 hg3 hcl
    refine wpAny_ready (rs := [4]) (by kernel_rfl) (by simp) ?_
    refine ready_append w.heap.size (.slice p3 N3 c3) (.slice (some ⟨w.heap.size, 5, none⟩) 32 32) BB TG (N3 + 32) hne hNN (by exact rfl) (by go_simp) (by go_simp) ho3 hT3 hb3 hlo3 ?_ AllReady.nil
    intro p4 c4 w4 ho4 hg4
    simp only [Act.put, List.setIfInBounds_toArray, List.set_cons_zero, List.set_cons_succ]
    refine take_op (i := 5) (.slice p4 (N3 + 32) c4) (by exact rfl) (by kernel_rfl) (by kernel_rfl) (by kernel_rfl) (fun _ _ _ h => h) (fun w => by go_simp) ?_
    simp only [Act.put, List.setIfInBounds_toArray, List.set_cons_zero, List.set_cons_succ]
    refine take_op (i := 6) (.int .i64 0) (by exact rfl) (by kernel_rfl) (by kernel_rfl) (by kernel_rfl) (fun _ _ _ h => h) (fun w => by go_simp) ?_
    simp only [Act.put, List.setIfInBounds_toArray, List.set_cons_zero, List.set_cons_succ]
    refine wpAny_done (by kernel_rfl) (NoPanic.normal ?_) _
    have HB4 := hid (HB3.out.trans (hg4.below ho3 hlo3))
    have HO4 := hid ho4
    clear ho3 hT3 ho4 hg4 HB3
    go_wp2_with fail
    go_ret2
    exact ⟨p4, N3 + 32, c4, by rw [← hNN]; simp, rfl, HO4.out, HB4.out⟩
end Go.Proofs.Ytpiflgbcbhnmpaa
