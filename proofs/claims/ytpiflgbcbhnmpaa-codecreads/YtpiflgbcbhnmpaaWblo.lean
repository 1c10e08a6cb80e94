/- What appendBlock and Block answer. -/
import Derived.Test.YtpiflgbcbhnmpaaWsls
/- What appendBlock and Block answer. -/
namespace Go.Proofs.Ytpiflgbcbhnmpaa
open Go.RowKit
structure Bk.Nn (k : Bk) : Prop where
  t0 : 0 ≤ k.tn
  t1 : k.tn < 1000
  dl : k.ds.length < 1000
  ds : ∀ d ∈ k.ds, d.Nn
  p : k.pv.length = 32
  r : k.rt.length = 32
  s : k.st.length = 32
theorem Bk.nn {k : Bk} (h : k.ok = true) (hf : BkFit k) : k.Nn := by
  simp only [Bk.ok, sdsOk, rng, Bool.and_eq_true, decide_eq_true_eq, List.all_eq_true] at h
  obtain ⟨⟨⟨h1, h2⟩, h3⟩, h4, h5⟩ := h
  exact ⟨h1, by omega, by omega, fun d hd => Sd.nn (h5 d hd) (hf.d d hd).2.1, hf.p, hf.r, hf.s⟩
def Bk.bytes (k : Bk) : List Nat := sev k.tn.toNat ++ (k.pv ++ (k.rt ++ (k.st ++ sdsB k.ds)))
/-- What a block is written in. -/
structure W39 (w0 : World) (v0 : Value) (base B : Nat) (E : List Value) (q : Option Addr) (N qc : Nat) (ds : List Sd) (w : World) (v : Value) (L : List Nat) : Prop where
  own : OwnB w base v L
  gro : Gro w0 v0 w v
  bx : Blk w B E 39
  n1 : v.ownBlock ≠ some B
  lo : base ≤ w.heap.size
  cm : SdsLo w base (.slice q N qc) ds
theorem W39.step {w0 : World} {v0 : Value} {base B : Nat} {E : List Value} {q : Option Addr} {N qc : Nat} {ds : List Sd} {w w' : World} {v v' : Value} {L L' : List Nat} (h : W39 w0 v0 base B E q N qc ds w v L) (ho : OwnB w' base v' L') (hg : Gro w v w' v') : W39 w0 v0 base B E q N qc ds w' v' L' :=
  ⟨ho, h.gro.trans hg, hg.blk h.bx h.n1, hg.ne h.bx.lt h.n1, Nat.le_trans h.lo hg.size, h.cm.below (hg.below h.own h.lo)⟩
/-- Bytes in the midst of a block of memory. -/
theorem mid_bytes {W : World} {B o : Nat} {E : List Value} {t : TypeId} {bs : List Nat} (h : Blk W B E t) (hl : bs.length = 32) (hg : ∀ i, i < 32 → E[o + i]? = some (By (bs.getD i 0))) : BytesAt W (.slice (some ⟨B, o, none⟩) 32 32) bs := by
  refine ⟨_, 32, by rw [hl], by omega, (fun h => by cases h), fun _ => ⟨B, o, rfl, fun i hi => ?_⟩⟩
  rw [h.cell]
  exact hg i (by omega)
theorem bkL_g1 (t : Int) (a b c : List Nat) (v : Value) (ha : a.length = 32) (i : Nat) (hi : i < 32) : (bkL t (a.map By) (b.map By) (c.map By) v)[1 + i]? = some (By (a.getD i 0)) := by
  unfold bkL
  rw [show 1 + i = i + 1 by omega, List.getElem?_cons_succ, List.getElem?_append_left (by simp; omega)]
  simp [ha, hi]
theorem bkL_g33 (t : Int) (a b c : List Nat) (v : Value) (ha : a.length = 32) (hb : b.length = 32) (i : Nat) (hi : i < 32) : (bkL t (a.map By) (b.map By) (c.map By) v)[33 + i]? = some (By (b.getD i 0)) := by
  unfold bkL
  rw [show 33 + i = (32 + i) + 1 by omega, List.getElem?_cons_succ, List.getElem?_append_right (by simp; omega), List.getElem?_append_left (by simp; omega)]
  simp [ha, hb, hi]
theorem bkL_g65 (t : Int) (a b c : List Nat) (v : Value) (ha : a.length = 32) (hb : b.length = 32) (hc : c.length = 32) (i : Nat) (hi : i < 32) : (bkL t (a.map By) (b.map By) (c.map By) v)[65 + i]? = some (By (c.getD i 0)) := by
  unfold bkL
  rw [show 65 + i = (64 + i) + 1 by omega, List.getElem?_cons_succ, List.getElem?_append_right (by simp; omega), List.getElem?_append_right (by simp; omega), List.getElem?_append_left (by simp; omega)]
  simp [ha, hb, hc, hi, show 64 + i - 32 - 32 = i by omega]
set_option maxRecDepth 100000 in
set_option maxHeartbeats 4000000 in
theorem appendBlock61 (k : Bk) (hk : k.Nn) (q : Option Addr) (N qc : Nat) (hN : N = k.ds.length) (xs : List Nat) (base : Nat) (p : Option Addr) (M cap : Nat) (w : World) (hM : M = xs.length) (ho : OwnB w base (.slice p M cap) xs) (hbase : base ≤ w.heap.size) (hsz : M < 1000000) (hC : SdsLo w base (.slice q N qc) k.ds) :
    Calls Try.prog 61 #[.slice p M cap, .agg (k.cells (.slice q N qc)).toArray] w fun e w' => OutG w (.slice p M cap) base (xs ++ k.bytes) e w' := by
  have S0 : Hid (W39 w (.slice p M cap) base w.heap.size (k.cells (.slice q N qc)) q N qc k.ds (w.alloc (.cells (k.cells (.slice q N qc)).toArray 39)) (.slice p M cap) xs) := by
    have hal : Below w.heap.size w (w.alloc (.cells (k.cells (.slice q N qc)).toArray 39)) := (Below.refl _ _).alloc (Nat.le_refl _) _
    exact ⟨ho.below hal, (Gro.refl w _).keep hal, Blk.new _ _ _, fun he => by have := (ho.block _ he).2; omega, Nat.le_trans hbase hal.size, hC.below (hal.mono hbase)⟩
  obtain ⟨tn, pv, rt, st, ds⟩ := k
  obtain ⟨t0, t1, hdl, hdn, lp, lr, ls⟩ := hk
  simp only at t0 t1 hdl hdn lp lr ls hN S0
  obtain ⟨tn, rfl⟩ : ∃ n : Nat, tn = (n : Int) := ⟨tn.toNat, by omega⟩
  obtain ⟨E, hE⟩ : ∃ E : List Value, E = (⟨(tn : Int), pv, rt, st, ds⟩ : Bk).cells (.slice q N qc) := ⟨_, rfl⟩
  rw [← hE] at S0 ⊢
  have hup := hid (show ∀ (n : Nat) (p1 : Option Addr) (N1 c1 : Nat) (L : List Nat) (W : World), n < 9223372036854775808 → W39 w (.slice p M cap) base w.heap.size E q N qc ds W (.slice p1 N1 c1) L → N1 = L.length → N1 < 10000000000 → Calls Try.prog 85 #[.slice p1 N1 c1, .int .i64 (n : Int)] W fun e w' => ∃ p2 N2 c2, N2 = (L ++ sev n).length ∧ e = .returned (.slice p2 N2 c2) ∧ N2 ≤ N1 + 10 ∧ W39 w (.slice p M cap) base w.heap.size E q N qc ds w' (.slice p2 N2 c2) (L ++ sev n) from fun n p1 N1 c1 L W hn hS hN1 hb => (appendInt85 n hn L base p1 N1 c1 W hN1 hS.own hS.lo (by omega)).mono fun _ _ ⟨p2, N2, c2, a1, a2, a3, a4⟩ => ⟨p2, N2, c2, a1, a2, by rw [a1, List.length_append, ← hN1]; have := sev_len10 (n := n) (by omega); omega, hS.step a3 a4⟩)
  have hls := hid (show ∀ (p1 : Option Addr) (N1 c1 : Nat) (L : List Nat) (W : World), W39 w (.slice p M cap) base w.heap.size E q N qc ds W (.slice p1 N1 c1) L → N1 = L.length → N1 < 10000000 → Calls Try.prog 90 #[.slice p1 N1 c1, .slice q N qc, .func (.func 52) #[] #[]] W fun e w' => ∃ p2 N2 c2, N2 = (L ++ sdsB ds).length ∧ e = .returned (.slice p2 N2 c2) ∧ W39 w (.slice p M cap) base w.heap.size E q N qc ds w' (.slice p2 N2 c2) (L ++ sdsB ds) from fun p1 N1 c1 L W hS hN1 hb => (appendList90 ds hdn hdl L base p1 N1 c1 q N qc W hN1 hN hS.own hS.lo hb hS.cm).mono fun _ _ ⟨p2, N2, c2, a1, a2, a3, a4⟩ => ⟨p2, N2, c2, a1, a2, hS.step a3 a4⟩)
  have G := hid (show ∀ (W : World), Blk W w.heap.size E 39 → W.cell? ⟨w.heap.size, 0, none⟩ = some (.int .i64 (tn : Int)) ∧ W.cell? ⟨w.heap.size, 97, none⟩ = some (.slice q N qc) ∧ BytesAt W (.slice (some ⟨w.heap.size, 1, none⟩) 32 32) pv ∧ BytesAt W (.slice (some ⟨w.heap.size, 33, none⟩) 32 32) rt ∧ BytesAt W (.slice (some ⟨w.heap.size, 65, none⟩) 32 32) st from fun W h => by
    rw [hE] at h
    exact ⟨by rw [h.cell]; rfl, by rw [h.cell]; exact bkL_get97 _ _ _ _ _ (by simp [lp]) (by simp [lr]) (by simp [ls]), mid_bytes h lp (fun i hi => bkL_g1 _ _ _ _ _ lp i hi), mid_bytes h lr (fun i hi => bkL_g33 _ _ _ _ _ lp lr i hi), mid_bytes h ls (fun i hi => bkL_g65 _ _ _ _ _ lp lr ls i hi)⟩)
  have HMM := hid hM
  have HN0 := hid hN
  unfold Bk.bytes
  simp only [Int.toNat_natCast]
  clear hC ho hM hN hE hdn hdl
  generalize sdsB ds = CB at *
  have hnp : pv ≠ [] := by rintro rfl; simp at lp
  have hnr : rt ≠ [] := by rintro rfl; simp at lr
  have hns : st ≠ [] := by rintro rfl; simp at ls
  obtain ⟨a0, a4, _, _, _⟩ := G.out _ S0.out.bx
  have call1 := hid (hup.out tn p M cap xs _ (by omega) S0.out HMM.out (by omega))
  go_enter Try.func61, Try.ntmps61
  go_wp2_with fail
  refine Calls.mono call1.out ?_
  rintro e w1 ⟨p1, N1, c1, hN1, rfl, hl1, T1⟩
  have S1 := hid T1
  have HN1 := hid hN1
  clear T1 S0 call1 a0 a4
  obtain ⟨_, _, d1, _, _⟩ := G.out _ S1.out.bx
  have hn1 : (xs ++ sev tn).length + pv.length = N1 + 32 := by rw [lp, ← hN1]
  have o1 := S1.out.own
  have l1 := S1.out.lo
  have b1 : N1 + 32 ≤ 1099511627776 := by omega
  clear hN1
  go_upto_region 3 with (first
    | ((with_reducible refine wpL_appendN base (.slice p1 N1 c1) (.slice (some ⟨w.heap.size, 1, none⟩) 32 32) (xs ++ sev tn) pv (N1 + 32) hnp hn1 ?_ ?_ o1 d1 b1 l1 ?_); (rfl); (rfl); (intro p2 c2 w2 ho2 hg2); (simp only [Act.put, List.setIfInBounds_toArray, List.set_cons_zero, List.set_cons_succ])))
  have S2' := hid (S1.out.step ho2 hg2)
  clear S1 ho2 hg2 o1 l1 d1
  obtain ⟨_, _, _, d2, _⟩ := G.out _ S2'.out.bx
  have hn2 : ((xs ++ sev tn) ++ pv).length + rt.length = N1 + 64 := by rw [List.length_append, hn1, lr]
  have o2 := S2'.out.own
  have l2 := S2'.out.lo
  have b2 : N1 + 64 ≤ 1099511627776 := by omega
  go_upto_region 4 with (first
    | ((with_reducible refine wpL_appendN base (.slice p2 (N1 + 32) c2) (.slice (some ⟨w.heap.size, 33, none⟩) 32 32) ((xs ++ sev tn) ++ pv) rt (N1 + 64) hnr hn2 ?_ ?_ o2 d2 b2 l2 ?_); (rfl); (rfl); (intro p3 c3 w3 ho3 hg3); (simp only [Act.put, List.setIfInBounds_toArray, List.set_cons_zero, List.set_cons_succ])))
  have S3 := hid (S2'.out.step ho3 hg3)
  clear S2' ho3 hg3 o2 l2 d2
  obtain ⟨_, _, _, _, d3⟩ := G.out _ S3.out.bx
  have hn3 : (((xs ++ sev tn) ++ pv) ++ rt).length + st.length = N1 + 96 := by rw [List.length_append, hn2, ls]
  have o3 := S3.out.own
  have l3 := S3.out.lo
  have b3 : N1 + 96 ≤ 1099511627776 := by omega
  go_upto_region 5 with (first
    | ((with_reducible refine wpL_appendN base (.slice p3 (N1 + 64) c3) (.slice (some ⟨w.heap.size, 65, none⟩) 32 32) (((xs ++ sev tn) ++ pv) ++ rt) st (N1 + 96) hns hn3 ?_ ?_ o3 d3 b3 l3 ?_); (rfl); (rfl); (intro p4 c4 w4 ho4 hg4); (simp only [Act.put, List.setIfInBounds_toArray, List.set_cons_zero, List.set_cons_succ])))
  have S4 := hid (S3.out.step ho4 hg4)
  clear S3 ho4 hg4 o3 l3 d3
  obtain ⟨_, a4, _, _, _⟩ := G.out _ S4.out.bx
  have call5 := hid (hls.out p4 (N1 + 96) c4 _ _ S4.out (by rw [List.length_append, hn3]) (by omega))
  have HN4 := hid hn3
  clear hn1 hn2 hn3
  go_wp2_with fail
  refine Calls.mono call5.out ?_
  rintro e w5 ⟨p5, N5, c5, hN5, rfl, T5⟩
  have HN5 := hid hN5
  have HT5 := hid T5
  clear hN5 T5
  go_wp2_with fail
  go_ret
  exact ⟨p5, N5, c5, by rw [HN5.out]; simp, rfl, by simpa using HT5.out.own, HT5.out.gro⟩
end Go.Proofs.Ytpiflgbcbhnmpaa
/- What Block answers. -/
namespace Go.Proofs.Ytpiflgbcbhnmpaa
open Go.RowKit
theorem SdsLo.at {w : World} {base : Nat} {v : Value} {ds : List Sd} (h : SdsLo w base v ds) : SdsAt w v ds := by
  obtain ⟨p, cap, ess, rfl, h1, h2, h3⟩ := h
  refine ⟨p, cap, ess, rfl, h1, fun i d es hd he => ?_, fun hn => ?_⟩
  · obtain ⟨a1, q, c, a2, a3, _⟩ := h2 i d es hd he
    exact ⟨a1, _, a2, a3⟩
  · obtain ⟨b, o, e, _, hc⟩ := h3 hn
    exact ⟨b, o, e, hc⟩
theorem OwnC.lo {w : World} {base : Nat} {v : Value} {cs : List C6} (h : OwnC w base v cs) : ∃ q c, v = .slice q cs.length c ∧ ∀ a, q = some a → a.block < w.heap.size := by
  obtain ⟨_, ⟨rfl, hn⟩ | ⟨g, cap, cur, rfl, hg, hh, _⟩⟩ := h
  · exact ⟨none, 0, by rw [hn], fun a ha => by cases ha⟩
  · exact ⟨_, cap, rfl, fun a ha => by cases ha; exact (Array.getElem?_eq_some_iff.1 hh).1⟩
theorem OwnS.lo {w : World} {base : Nat} {v : Value} {ds : List Sd} (h : OwnS w base v ds) : SdsLo w w.heap.size v ds := by
  have hat := h.at
  obtain ⟨ess, h1, h2, h3⟩ := h
  have hl : ∀ es ∈ ess, es.length = 37 := fun es hes => by
    obtain ⟨i, hi⟩ := List.getElem?_of_mem hes
    have hlt : i < ds.length := by have := (List.getElem?_eq_some_iff.1 hi).1; omega
    exact (h3 i _ es (List.getElem?_eq_getElem hlt) hi).1
  have hm : ∀ (i : Nat) (d : Sd) (es : List Value), ds[i]? = some d → ess[i]? = some es → es.length = 37 ∧ ∃ (q : Option Addr) (c : Nat), es = d.cells (.slice q d.cs.length c) ∧ CmdsAt w (.slice q d.cs.length c) d.cs ∧ (0 < d.cs.length → ∀ a, q = some a → a.block < w.heap.size) := fun i d es hd he => by
    obtain ⟨a1, cv, a2, a3⟩ := h3 i d es hd he
    obtain ⟨q, c, rfl, hq⟩ := a3.lo
    exact ⟨a1, q, c, a2, a3.at, fun _ => hq⟩
  obtain ⟨_, ⟨rfl, hn⟩ | ⟨g, cap, cur, rfl, hg, hh, hc, hmx, hcs, ht⟩⟩ := h2
  · exact ⟨none, 0, ess, by rw [hn], h1, hm, fun hne => absurd (List.eq_nil_of_length_eq_zero hn) hne⟩
  · exact ⟨_, cap, ess, rfl, h1, hm, fun _ => ⟨g, 0, rfl, (Array.getElem?_eq_some_iff.1 hh).1, fun i es hi => row_range hh ht hl i es hi⟩⟩
def blkLst (d : Bk) : List Nat := if d.ok then d.bytes else []
def blkErr (d : Bk) : Int := if d.ok then 0 else 4
set_option maxRecDepth 100000 in
set_option maxHeartbeats 4000000 in
theorem block26 (d : Bk) (hf : BkFit d) (q : Option Addr) (N qc : Nat) (hN : N = d.ds.length) (hNb : N < 1000000000) (w : World) (hC : SdsLo w w.heap.size (.slice q N qc) d.ds) :
    Calls Try.prog 26 #[.agg (d.cells (.slice q N qc)).toArray] w fun e w' => OutE w w.heap.size (blkLst d) (blkErr d) e w' := by
  have hal : Below w.heap.size w (w.alloc (.cells (d.cells (.slice q N qc)).toArray 39)) := (Below.refl _ _).alloc (Nat.le_refl _) _
  have hbx := Blk.new w (d.cells (.slice q N qc)) 39
  have h51 := hid (blockFormed60 d hf q N qc (w.alloc (.cells (d.cells (.slice q N qc)).toArray 39)) hN (hC.below hal).at hNb)
  have h52 := hid (show d.ok = true → ∀ W, Below w.heap.size w W → Calls Try.prog 61 #[.slice none 0 0, .agg (d.cells (.slice q N qc)).toArray] W fun e w' => OutG W (.slice none 0 0) w.heap.size d.bytes e w' from fun hok W hW => by
    have h9 := appendBlock61 d (Bk.nn hok hf) q N qc hN [] w.heap.size none 0 0 W rfl (OwnB.nil _ _) hW.size (by omega) (hC.below hW)
    rw [List.nil_append] at h9
    exact h9)
  have HL := hid (show ∀ b, b = d.ok → blkLst d = (if b then d.bytes else []) ∧ blkErr d = (if b then 0 else 4) from fun b hb => by subst hb; exact ⟨rfl, rfl⟩)
  obtain ⟨E, hE⟩ : ∃ E, E = d.cells (.slice q N qc) := ⟨_, rfl⟩
  have hEl : E.length = 98 := by rw [hE]; exact bkL_length _ _ _ _ _ (by rw [List.length_map]; exact hf.p) (by rw [List.length_map]; exact hf.r) (by rw [List.length_map]; exact hf.s)
  have hi47 : (Try.prog.info? 39).map (·.size) = some E.length := by rw [hEl]; exact size39
  rw [← hE] at h51 h52 hbx hal ⊢
  obtain ⟨ok, hok⟩ : ∃ ok, ok = d.ok := ⟨_, rfl⟩
  rw [← hok] at h51 h52
  obtain ⟨l1, l2⟩ := HL.out ok hok
  rw [l1, l2]
  have HAL := hid hal
  have HBX := hid hbx
  have hr := hbx.range
  generalize d.bytes = BB at *
  clear hE hC hN hal hf hbx HL l1 l2 hok
  rcases ok with _ | _
  · go_enter Try.func26, Try.ntmps26
    go_wp2_with (first
      | ((with_reducible refine wpL_load 39 w.heap.size 0 E _ ?_ hr Try.underlying39 ?_ hi47 ?_); (rfl); (rfl); (simp only [Act.put, List.setIfInBounds_toArray, List.set_cons_zero, List.set_cons_succ]))
      | (go_at_call 60; refine Calls.mono h51.out ?_; rintro e w2 ⟨rfl, hb2⟩))
    go_ret2
    exact ⟨none, 0, 0, rfl, rfl, OwnB.nil _ _, HAL.out.trans (hb2.mono HAL.out.size)⟩
  · go_enter Try.func26, Try.ntmps26
    go_upto_region 1 with (fail)
    generalize w.alloc (.cells E.toArray 39) = W at *
    go_wp2_with (first
      | ((with_reducible refine wpL_load 39 w.heap.size 0 E _ ?_ hr Try.underlying39 ?_ hi47 ?_); (rfl); (rfl); (simp only [Act.put, List.setIfInBounds_toArray, List.set_cons_zero, List.set_cons_succ])))
    refine Calls.mono h51.out ?_
    rintro e w2 ⟨rfl, hb2⟩
    have hr2 := (HBX.out.below hb2 HBX.out.lt).range
    have hbe2 := HAL.out.trans (hb2.mono HAL.out.size)
    have h5 := hid (h52.out (by first | exact rfl | trivial) w2 hbe2)
    have HBE2 := hid hbe2
    clear hr h52 h51 hb2 hbe2
    go_wp2_with (first
      | ((with_reducible refine wpL_load 39 w.heap.size 0 E _ ?_ hr2 Try.underlying39 ?_ hi47 ?_); (rfl); (rfl); (simp only [Act.put, List.setIfInBounds_toArray, List.set_cons_zero, List.set_cons_succ])))
    refine Calls.mono h5.out ?_
    rintro e w3 ⟨p3, N3, c3, hN3, rfl, ho3, hg3⟩
    have HN3 := hid hN3
    have HB3 := hid (HBE2.out.trans (hg3.below (OwnB.nil w2 w.heap.size) HBE2.out.size))
    clear hN3 hg3
    go_wp2_with fail
    go_ret2
    exact ⟨p3, N3, c3, HN3.out, rfl, ho3, HB3.out⟩
end Go.Proofs.Ytpiflgbcbhnmpaa
