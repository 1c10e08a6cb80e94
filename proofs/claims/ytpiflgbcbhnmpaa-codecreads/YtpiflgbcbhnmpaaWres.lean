/- What Result answers. -/
import Derived.Test.YtpiflgbcbhnmpaaWblo
namespace Go.Proofs.Ytpiflgbcbhnmpaa
open Go.RowKit
def Rs.ok (r : Rs) : Bool := decide (r.m ≤ 9223372036854775807) && rng r.tn 60 && decide (-1 ≤ r.wn) && decide (r.wn < 4)
set_option maxRecDepth 100000 in
set_option maxHeartbeats 4000000 in
theorem resultFormed63 (r : Rs) (hm : r.m < 18446744073709551616) (w : World) :
    Calls Try.prog 63 #[.agg r.cells.toArray] w fun e w' => e = .returned (.bool r.ok) ∧ Below w.heap.size w w' := by
  have hw : Hid (∀ a b W, Calls Try.prog 82 #[.int .i64 a, .int .i64 b] W fun e w' => e = .returned (.bool (rng a b)) ∧ w' = W) := fun a b W => within_any a b W
  have hB := Blk.new w r.cells 41
  have hbe : Below w.heap.size w (w.alloc (.cells r.cells.toArray 41)) := (Below.refl _ _).alloc (Nat.le_refl _) _
  have c0 : (w.alloc (.cells r.cells.toArray 41)).cell? ⟨w.heap.size, 0, none⟩ = some (.int .u64 (r.m : Int)) := hB.cell 0
  have c1 : (w.alloc (.cells r.cells.toArray 41)).cell? ⟨w.heap.size, 1, none⟩ = some (.int .i64 r.tn) := hB.cell 1
  have c2 : (w.alloc (.cells r.cells.toArray 41)).cell? ⟨w.heap.size, 2, none⟩ = some (.int .i64 r.wn) := hB.cell 2
  unfold Rs.ok
  have HBE := hid hbe
  obtain ⟨X, hX⟩ : ∃ X, X = r.cells := ⟨_, rfl⟩
  rw [← hX] at c0 c1 c2 HBE ⊢
  obtain ⟨m, tn, wn, la, tg⟩ := r
  simp only at hm c0 c1 c2 ⊢
  clear hB hbe hX
  rcases Bool.eq_false_or_eq_true (decide (m ≤ 9223372036854775807)) with a1 | a1
  · have b1 : (m : Int) ≤ 9223372036854775807 := by have := of_decide_eq_true a1; omega
    rw [a1]
    rcases a2 : rng tn 60 with _ | _
    · go_enter Try.func63, Try.ntmps63
      go_wp2_with (go_at_call 82; refine Calls.mono (hw.out _ _ _) ?_; rintro e w2 ⟨rfl, rfl⟩)
      go_ret
      exact ⟨rfl, HBE.out⟩
    · rcases Bool.eq_false_or_eq_true (decide (-1 ≤ wn)) with a3 | a3
      · rw [a3]
        go_enter Try.func63, Try.ntmps63
        go_wp2_with (go_at_call 82; refine Calls.mono (hw.out _ _ _) ?_; rintro e w2 ⟨rfl, rfl⟩)
        go_ret
        exact ⟨rfl, HBE.out⟩
      · rw [a3]
        go_enter Try.func63, Try.ntmps63
        go_wp2_with (go_at_call 82; refine Calls.mono (hw.out _ _ _) ?_; rintro e w2 ⟨rfl, rfl⟩)
        go_ret
        exact ⟨rfl, HBE.out⟩
  · have b1 : ¬ (m : Int) ≤ 9223372036854775807 := by have := of_decide_eq_false a1; omega
    rw [a1]
    go_enter Try.func63, Try.ntmps63
    go_wp2_with fail
    go_ret
    exact ⟨rfl, HBE.out⟩
structure Rs.Nn (r : Rs) : Prop where
  m : r.m < 18446744073709551616
  t0 : 0 ≤ r.tn
  t1 : r.tn < 1000
  w0 : -1 ≤ r.wn
  w1 : r.wn < 1000
  la : r.la.length = 32
  tg : r.tg.length = 32
theorem Rs.nn {r : Rs} (h : r.ok = true) (hl : r.la.length = 32) (ht : r.tg.length = 32) : r.Nn := by
  simp only [Rs.ok, rng, Bool.and_eq_true, decide_eq_true_eq] at h
  obtain ⟨⟨⟨h1, h2, h3⟩, h4⟩, h5⟩ := h
  exact ⟨by omega, h2, by omega, h4, by omega, hl, ht⟩
def Rs.claim (r : Rs) : List Nat := sev r.m ++ (sev r.tn.toNat ++ (sev (r.wn + 1).toNat ++ r.la))
def Rs.bytes (r : Rs) : List Nat := r.claim ++ r.tg
structure W41 (w0 : World) (v0 : Value) (base B : Nat) (E : List Value) (w : World) (v : Value) (L : List Nat) : Prop where
  own : OwnB w base v L
  gro : Gro w0 v0 w v
  bx : Blk w B E 41
  n1 : v.ownBlock ≠ some B
  lo : base ≤ w.heap.size
theorem W41.step {w0 : World} {v0 : Value} {base B : Nat} {E : List Value} {w w' : World} {v v' : Value} {L L' : List Nat} (h : W41 w0 v0 base B E w v L) (ho : OwnB w' base v' L') (hg : Gro w v w' v') : W41 w0 v0 base B E w' v' L' :=
  ⟨ho, h.gro.trans hg, hg.blk h.bx h.n1, hg.ne h.bx.lt h.n1, Nat.le_trans h.lo hg.size⟩
theorem rsC_g3 (m : Nat) (t n : Int) (a b : List Nat) (ha : a.length = 32) (i : Nat) (hi : i < 32) : (rsC m t n (a.map By) (b.map By))[3 + i]? = some (By (a.getD i 0)) := by
  unfold rsC
  rw [show 3 + i = i + 1 + 1 + 1 by omega, List.getElem?_cons_succ, List.getElem?_cons_succ, List.getElem?_cons_succ, List.getElem?_append_left (by simp; omega)]
  simp [ha, hi]
theorem rsC_g35 (m : Nat) (t n : Int) (a b : List Nat) (ha : a.length = 32) (hb : b.length = 32) (i : Nat) (hi : i < 32) : (rsC m t n (a.map By) (b.map By))[35 + i]? = some (By (b.getD i 0)) := by
  unfold rsC
  rw [show 35 + i = (32 + i) + 1 + 1 + 1 by omega, List.getElem?_cons_succ, List.getElem?_cons_succ, List.getElem?_cons_succ, List.getElem?_append_right (by simp; omega)]
  simp [ha, hb, hi]
set_option maxRecDepth 100000 in
set_option maxHeartbeats 4000000 in
theorem appendClaim64 (r : Rs) (hr : r.Nn) (xs : List Nat) (base : Nat) (p : Option Addr) (M cap : Nat) (w : World) (hM : M = xs.length) (ho : OwnB w base (.slice p M cap) xs) (hbase : base ≤ w.heap.size) (hsz : M < 1000000) :
    Calls Try.prog 64 #[.slice p M cap, .agg r.cells.toArray] w fun e w' => OutG w (.slice p M cap) base (xs ++ r.claim) e w' := by
  have S0 : Hid (W41 w (.slice p M cap) base w.heap.size r.cells (w.alloc (.cells r.cells.toArray 41)) (.slice p M cap) xs) := by
    have hal : Below w.heap.size w (w.alloc (.cells r.cells.toArray 41)) := (Below.refl _ _).alloc (Nat.le_refl _) _
    exact ⟨ho.below hal, (Gro.refl w _).keep hal, Blk.new _ _ _, fun he => by have := (ho.block _ he).2; omega, Nat.le_trans hbase hal.size⟩
  obtain ⟨m, tn, wn, la, tg⟩ := r
  obtain ⟨hm, t0, t1, u0, u1, ll, lt⟩ := hr
  simp only at hm t0 t1 u0 u1 ll lt S0
  obtain ⟨tn, rfl⟩ : ∃ n : Nat, tn = (n : Int) := ⟨tn.toNat, by omega⟩
  obtain ⟨wn, rfl⟩ : ∃ n : Nat, wn = (n : Int) - 1 := ⟨(wn + 1).toNat, by omega⟩
  obtain ⟨E, hE⟩ : ∃ E : List Value, E = (⟨m, (tn : Int), (wn : Int) - 1, la, tg⟩ : Rs).cells := ⟨_, rfl⟩
  rw [← hE] at S0 ⊢
  have hup := hid (show ∀ (n : Nat) (p1 : Option Addr) (N1 c1 : Nat) (L : List Nat) (W : World), n < 9223372036854775808 → W41 w (.slice p M cap) base w.heap.size E W (.slice p1 N1 c1) L → N1 = L.length → N1 < 10000000000 → Calls Try.prog 85 #[.slice p1 N1 c1, .int .i64 (n : Int)] W fun e w' => ∃ p2 N2 c2, N2 = (L ++ sev n).length ∧ e = .returned (.slice p2 N2 c2) ∧ N2 ≤ N1 + 10 ∧ W41 w (.slice p M cap) base w.heap.size E w' (.slice p2 N2 c2) (L ++ sev n) from fun n p1 N1 c1 L W hn hS hN1 hb => (appendInt85 n hn L base p1 N1 c1 W hN1 hS.own hS.lo (by omega)).mono fun _ _ ⟨p2, N2, c2, a1, a2, a3, a4⟩ => ⟨p2, N2, c2, a1, a2, by rw [a1, List.length_append, ← hN1]; have := sev_len10 (n := n) (by omega); omega, hS.step a3 a4⟩)
  have hsv := hid (show ∀ (n : Nat) (p1 : Option Addr) (N1 c1 : Nat) (L : List Nat) (W : World), n < 18446744073709551616 → W41 w (.slice p M cap) base w.heap.size E W (.slice p1 N1 c1) L → N1 = L.length → N1 < 10000000000 → Calls Try.prog 44 #[.slice p1 N1 c1, .int .u64 (n : Int)] W fun e w' => ∃ p2 N2 c2, N2 = (L ++ sev n).length ∧ e = .returned (.slice p2 N2 c2) ∧ N2 ≤ N1 + 10 ∧ W41 w (.slice p M cap) base w.heap.size E w' (.slice p2 N2 c2) (L ++ sev n) from fun n p1 N1 c1 L W hn hS hN1 hb => (appendSevens44 n hn L base p1 N1 c1 W hN1 hS.own hS.lo (by omega)).mono fun _ _ ⟨p2, N2, c2, a1, a2, a3, a4⟩ => ⟨p2, N2, c2, a1, a2, by rw [a1, List.length_append, ← hN1]; have := sev_len10 (n := n) (by omega); omega, hS.step a3 a4⟩)
  have G := hid (show ∀ (W : World), Blk W w.heap.size E 41 → W.cell? ⟨w.heap.size, 0, none⟩ = some (.int .u64 (m : Int)) ∧ W.cell? ⟨w.heap.size, 1, none⟩ = some (.int .i64 (tn : Int)) ∧ W.cell? ⟨w.heap.size, 2, none⟩ = some (.int .i64 ((wn : Int) - 1)) ∧ BytesAt W (.slice (some ⟨w.heap.size, 3, none⟩) 32 32) la from fun W h => by
    rw [hE] at h
    exact ⟨by rw [h.cell]; rfl, by rw [h.cell]; rfl, by rw [h.cell]; rfl, mid_bytes h ll (fun i hi => rsC_g3 _ _ _ _ _ ll i hi)⟩)
  have HMM := hid hM
  unfold Rs.claim
  simp only [Int.toNat_natCast]
  have ew : ((wn : Int) - 1 + 1).toNat = wn := by omega
  have ww : IntKind.i64.wrap ((wn : Int) - 1 + 1) = (wn : Int) := by rw [IntKind.wrap_i64]; omega
  have ew2 : (wn : Int) - 1 + 1 = (wn : Int) := by omega
  rw [ew]
  clear ho hM hE ew
  have hnl : la ≠ [] := by rintro rfl; simp at ll
  obtain ⟨a0, a1, a2, _⟩ := G.out _ S0.out.bx
  have call1 := hid (hsv.out m p M cap xs _ hm S0.out HMM.out (by omega))
  go_enter Try.func64, Try.ntmps64
  go_wp2_with fail
  refine Calls.mono call1.out ?_
  rintro e w1 ⟨p1, N1, c1, hN1, rfl, hl1, T1⟩
  have S1 := hid T1
  have HN1 := hid hN1
  clear T1 S0 call1 a0 a1 a2 hN1
  obtain ⟨a0, a1, a2, _⟩ := G.out _ S1.out.bx
  have call2 := hid (hup.out tn p1 N1 c1 _ _ (by omega) S1.out HN1.out (by omega))
  go_wp2_with fail
  refine Calls.mono call2.out ?_
  rintro e w2 ⟨p2, N2, c2, hN2, rfl, hl2, T2⟩
  have S2' := hid T2
  have HN2 := hid hN2
  clear T2 S1 call2 a0 a1 a2 hN2
  obtain ⟨a0, a1, a2, _⟩ := G.out _ S2'.out.bx
  have call3 := hid (hup.out wn p2 N2 c2 _ _ (by omega) S2'.out HN2.out (by omega))
  go_wp2_with fail
  refine Calls.mono call3.out ?_
  rintro e w3 ⟨p3, N3, c3, hN3, rfl, hl3, T3⟩
  have S3 := hid T3
  have hn3 : (((xs ++ sev m) ++ sev tn) ++ sev wn).length + la.length = N3 + 32 := by rw [ll, ← hN3]
  have HN3 := hid hN3
  clear T3 S2' call3 a0 a1 a2 hN3
  obtain ⟨_, _, _, d3⟩ := G.out _ S3.out.bx
  have o3 := S3.out.own
  have l3 := S3.out.lo
  have b3 : N3 + 32 ≤ 1099511627776 := by omega
  go_wp2_with (first
    | ((with_reducible refine wpL_appendN base (.slice p3 N3 c3) (.slice (some ⟨w.heap.size, 3, none⟩) 32 32) (((xs ++ sev m) ++ sev tn) ++ sev wn) la (N3 + 32) hnl hn3 ?_ ?_ o3 d3 b3 l3 ?_); (rfl); (rfl); (intro p4 c4 w4 ho4 hg4); (simp only [Act.put, List.setIfInBounds_toArray, List.set_cons_zero, List.set_cons_succ])))
  have HG4 := hid (S3.out.gro.trans hg4)
  have HO4 := hid ho4
  go_ret
  exact ⟨p4, N3 + 32, c4, by rw [← hn3]; simp; omega, rfl, by simpa using HO4.out, HG4.out⟩
def resL (r : Rs) : List Nat := if r.ok then r.bytes else []
def resE (r : Rs) : Int := if r.ok then 0 else 4
set_option maxRecDepth 100000 in
set_option maxHeartbeats 4000000 in
theorem result28 (r : Rs) (hm : r.m < 18446744073709551616) (hl : r.la.length = 32) (ht : r.tg.length = 32) (w : World) :
    Calls Try.prog 28 #[.agg r.cells.toArray] w fun e w' => OutE w w.heap.size (resL r) (resE r) e w' := by
  have hal : Below w.heap.size w (w.alloc (.cells r.cells.toArray 41)) := (Below.refl _ _).alloc (Nat.le_refl _) _
  have hbx := Blk.new w r.cells 41
  have h51 := hid (resultFormed63 r hm (w.alloc (.cells r.cells.toArray 41)))
  have h52 := hid (show r.ok = true → ∀ W, Below w.heap.size w W → Calls Try.prog 64 #[.slice none 0 0, .agg r.cells.toArray] W fun e w' => OutG W (.slice none 0 0) w.heap.size r.claim e w' ∧ r.claim.length ≤ 100 from fun hok W hW => by
    have hn := Rs.nn hok hl ht
    have h9 := appendClaim64 r hn [] w.heap.size none 0 0 W rfl (OwnB.nil _ _) hW.size (by omega)
    rw [List.nil_append] at h9
    have l1 := sev_len10 hn.m
    have l2 := sev_len10 (n := r.tn.toNat) (by have := hn.t1; omega)
    have l3 := sev_len10 (n := (r.wn + 1).toNat) (by have := hn.w1; omega)
    exact h9.mono fun _ _ h8 => ⟨h8, by simp only [Rs.claim, List.length_append]; omega⟩)
  have HL := hid (show ∀ b, b = r.ok → resL r = (if b then r.claim ++ r.tg else []) ∧ resE r = (if b then 0 else 4) from fun b hb => by subst hb; exact ⟨rfl, rfl⟩)
  obtain ⟨E, hE⟩ : ∃ E, E = r.cells := ⟨_, rfl⟩
  have hEl : E.length = 67 := by rw [hE]; exact rsC_length _ _ _ _ _ (by rw [List.length_map]; exact hl) (by rw [List.length_map]; exact ht)
  have hi41 : (Try.prog.info? 41).map (·.size) = some E.length := by rw [hEl]; exact size41
  have HT := hid (show ∀ W, Blk W w.heap.size E 41 → BytesAt W (.slice (some ⟨w.heap.size, 35, none⟩) 32 32) r.tg from fun W h => by rw [hE] at h; exact mid_bytes h ht (fun i hi => rsC_g35 _ _ _ _ _ hl ht i hi))
  rw [← hE] at h51 h52 hbx hal ⊢
  obtain ⟨ok, hok⟩ : ∃ ok, ok = r.ok := ⟨_, rfl⟩
  rw [← hok] at h51 h52
  obtain ⟨l1, l2⟩ := HL.out ok hok
  rw [l1, l2]
  have HAL := hid hal
  have HBX := hid hbx
  have hr := hbx.range
  have htl := hid ht
  generalize r.claim = CC at *
  generalize r.tg = TG at *
  clear hE hal hbx HL l1 l2 hok ht hl hm
  rcases ok with _ | _
  · go_enter Try.func28, Try.ntmps28
    go_wp2_with (first
      | ((with_reducible refine wpL_load 41 w.heap.size 0 E _ ?_ hr Try.underlying41 ?_ hi41 ?_); (rfl); (rfl); (simp only [Act.put, List.setIfInBounds_toArray, List.set_cons_zero, List.set_cons_succ]))
      | (go_at_call 63; refine Calls.mono h51.out ?_; rintro e w2 ⟨rfl, hb2⟩))
    go_ret2
    exact ⟨none, 0, 0, rfl, rfl, OwnB.nil _ _, HAL.out.trans (hb2.mono HAL.out.size)⟩
  · go_enter Try.func28, Try.ntmps28
    go_upto_region 1 with (fail)
    generalize w.alloc (.cells E.toArray 41) = W at *
    go_wp2_with (first
      | ((with_reducible refine wpL_load 41 w.heap.size 0 E _ ?_ hr Try.underlying41 ?_ hi41 ?_); (rfl); (rfl); (simp only [Act.put, List.setIfInBounds_toArray, List.set_cons_zero, List.set_cons_succ])))
    refine Calls.mono h51.out ?_
    rintro e w2 ⟨rfl, hb2⟩
    have hbx2 := HBX.out.below hb2 HBX.out.lt
    have hr2 : w2.drew.rangeAt w.heap.size 0 E := hbx2.drew.range
    have hbe2 := HAL.out.trans (hb2.mono HAL.out.size)
    have h5 := hid (h52.out (by first | exact rfl | trivial) w2.drew hbe2.drew)
    have HBE2 := hid hbe2
    have HBX2 := hid hbx2
    clear hr h52 h51 hb2 hbe2 hbx2
    go_upto_region 3 with (fail)
    refine wp_region_noPanic ?_
    refine wp_region_any (by kernel_rfl) ?_
    change wpAny _ _ _ _ _ _ _ (World.drew _)
    refine take_op (i := 2) (.pointer (some ⟨w.heap.size, 35, none⟩)) (by exact rfl) (by kernel_rfl) (by kernel_rfl) (by kernel_rfl) (fun _ _ _ h => h) (fun w => by go_simp) ?_
    simp only [Act.put, List.setIfInBounds_toArray, List.set_cons_zero, List.set_cons_succ]
    refine take_op (i := 3) (.slice (some ⟨w.heap.size, 35, none⟩) 32 32) (by exact rfl) (by kernel_rfl) (by kernel_rfl) (by kernel_rfl) (fun _ _ _ h => h) (fun w => by go_simp) ?_
    simp only [Act.put, List.setIfInBounds_toArray, List.set_cons_zero, List.set_cons_succ]
    refine wpAny_ready (rs := [0]) (by kernel_rfl) (by simp) ?_
    refine ready_load 41 w.heap.size 0 E _ (by exact rfl) (by go_simp) hr2 Try.underlying41 rfl hi41 ?_ AllReady.nil
    simp only [Act.put, List.setIfInBounds_toArray, List.set_cons_zero, List.set_cons_succ]
    refine wpAny_ready (rs := [1]) (by kernel_rfl) (by simp) ?_
    refine ready_call 64 _ _ #[.slice none 0 0, .agg E.toArray] (by exact rfl) (by go_simp) (by go_simp) ?_ AllReady.nil
    refine Calls.mono h5.out ?_
    rintro e w3 ⟨⟨p3, N3, c3, hN3, rfl, ho3, hg3⟩, hcl⟩
    refine ⟨_, rfl, ?_⟩
    simp only [Act.put, List.setIfInBounds_toArray, List.set_cons_zero, List.set_cons_succ]
    have hbx3 := hg3.blk HBX2.out.drew (by simp [Value.ownBlock])
    have hT3 := HT.out w3 hbx3
    have hlo3 : w.heap.size ≤ w3.heap.size := Nat.le_trans HBE2.out.size hg3.size
    have hNN : CC.length + TG.length = N3 + 32 := by rw [← hN3, htl.out]
    have hb3 : N3 + 32 ≤ 1099511627776 := by omega
    have hne : TG ≠ [] := by intro h; have := htl.out; rw [h] at this; simp at this
    have HB3 := hid (HBE2.out.drew.trans (hg3.below (OwnB.nil _ w.heap.size) HBE2.out.size))
    have HN3 := hid hN3
    clear hN3 hg3 hcl
    refine wpAny_ready (rs := [4]) (by kernel_rfl) (by simp) ?_
    refine ready_append w.heap.size (.slice p3 N3 c3) (.slice (some ⟨w.heap.size, 35, none⟩) 32 32) CC TG (N3 + 32) hne hNN (by exact rfl) (by go_simp) (by go_simp) ho3 hT3 hb3 hlo3 ?_ AllReady.nil
    intro p4 c4 w4 ho4 hg4
    simp only [Act.put, List.setIfInBounds_toArray, List.set_cons_zero, List.set_cons_succ]
    refine take_op (i := 5) (.slice p4 (N3 + 32) c4) (by exact rfl) (by kernel_rfl) (by kernel_rfl) (by kernel_rfl) (fun _ _ _ h => h) (fun w => by go_simp) ?_
    simp only [Act.put, List.setIfInBounds_toArray, List.set_cons_zero, List.set_cons_succ]
    refine take_op (i := 6) (.int .i64 0) (by exact rfl) (by kernel_rfl) (by kernel_rfl) (by kernel_rfl) (fun _ _ _ h => h) (fun w => by go_simp) ?_
    simp only [Act.put, List.setIfInBounds_toArray, List.set_cons_zero, List.set_cons_succ]
    refine wpAny_done (by kernel_rfl) (NoPanic.normal ?_) _
    have HB4 := hid (HB3.out.trans (hg4.below ho3 hlo3))
    have HO4 := hid ho4
    clear ho3 hT3 ho4 hg4 HB3
    go_wp2_with fail
    go_ret2
    exact ⟨p4, N3 + 32, c4, by rw [← hNN]; simp, rfl, HO4.out, HB4.out⟩
end Go.Proofs.Ytpiflgbcbhnmpaa
