/- The walk of the law CodecWrites. -/
import Derived.Test.YtpiflgbcbhnmpaaRres3
import Derived.Test.YtpiflgbcbhnmpaaCuts
import Derived.Test.YtpiflgbcbhnmpaaSame
import Derived.Test.YtpiflgbcbhnmpaaLbk
namespace Go.Proofs.Ytpiflgbcbhnmpaa
open Go.RowKit
theorem wpL_loadG {P : Program} {ops : Array Oper} {rest : List Oper} {Q : Exit → Act → World → Prop} {a : Act} {w : World} {dd : Option Tmp} {x : Operand} {tt : TypeId} {pos : String} {af : Array Edge} {g : Option (Nat × Bool)} (ty : TypeId) (b o : Nat) (cs : List Value) (d : TypeDesc)
    (hw : Region.wanted { dst := dd, op := .load ty x, type := tt, pos := pos, after := af, guard := g } (yielded ops a.tmps) = true)
    (hx : a.eval x = .pointer (some ⟨b, o, none⟩)) (hc : w.rangeAt b o cs) (hu : P.underlying ty = some d) (hd : d.isRow = true) (hi : (P.info? ty).map (·.size) = some cs.length)
    (h : wpList P ops Q rest (a.put dd (.agg cs.toArray)) w) : wpList P ops Q ({ dst := dd, op := .load ty x, type := tt, pos := pos, after := af, guard := g } :: rest) a w :=
  wpList_step fun K hK => by rw [if_pos hw]; exact wp_load_mid ty x rfl b o hx cs d hc hu hd hi (hK _ _ h)
theorem wpL_bsG {P : Program} {ops : Array Oper} {rest : List Oper} {Q : Exit → Act → World → Prop} {a : Act} {w : World} {dd : Option Tmp} {x : Operand} {tt : TypeId} {pos : String} {af : Array Edge} {g : Option (Nat × Bool)} (slT ty : TypeId) (E : List Value)
    (hw : Region.wanted { dst := dd, op := .buildSlice slT 1 #[(0, x)], type := tt, pos := pos, after := af, guard := g } (yielded ops a.tmps) = true)
    (hx : a.eval x = .agg E.toArray) (hb : ∀ w, (Instr.buildSlice slT 1 #[(0, .agg E.toArray)]).run P w = .ok (.slice (some ⟨w.heap.size, 0, none⟩) 1 1) (w.alloc (.cells E.toArray ty)))
    (h : wpList P ops Q rest (a.put dd (.slice (some ⟨w.heap.size, 0, none⟩) 1 1)) (w.alloc (.cells E.toArray ty))) : wpList P ops Q ({ dst := dd, op := .buildSlice slT 1 #[(0, x)], type := tt, pos := pos, after := af, guard := g } :: rest) a w := by
  refine wpList_step fun K hK => ?_
  rw [if_pos hw]
  unfold Oper.wp execOp
  have e : (#[(0, x)] : Array (Nat × Operand)).map (fun (i, x) => (i, a.eval x)) = #[(0, .agg E.toArray)] := by simp [hx]
  simp only [e, Sem.run_bind, hb, Result.andThen_ok, Sem.run_pure]
  exact hK _ _ h
/-- A slice of one block, in a new block of memory. -/
theorem bks_one (w : World) (k : Bk) (hf : k.pv.length = 32 ∧ k.rt.length = 32 ∧ k.st.length = 32) (q : Option Addr) (N c : Nat) (hN : N = k.ds.length) (hC : SdsLo w w.heap.size (.slice q N c) k.ds) : BksLo (w.alloc (.cells (k.cells (.slice q N c)).toArray 39)) (w.heap.size + 1) (.slice (some ⟨w.heap.size, 0, none⟩) 1 1) [k] := by
  subst hN
  have hal : Below w.heap.size w (w.alloc (.cells (k.cells (.slice q k.ds.length c)).toArray 39)) := (Below.refl _ _).alloc (Nat.le_refl _) _
  refine ⟨_, 1, [k.cells (.slice q k.ds.length c)], rfl, rfl, fun i d es hd he => ?_, fun _ => ⟨w.heap.size, 0, rfl, Nat.lt_succ_self _, fun i es he => ?_⟩⟩
  · have hi : i = 0 := by have := (List.getElem?_eq_some_iff.1 hd).1; simpa using this
    subst hi
    simp at hd he
    subst hd he
    refine ⟨bkL_length _ _ _ _ _ (by rw [List.length_map]; exact hf.1) (by rw [List.length_map]; exact hf.2.1) (by rw [List.length_map]; exact hf.2.2), q, c, rfl, ?_⟩
    obtain ⟨p, cap, ess, h0, h1, h2, h3⟩ := hC.below hal
    exact ⟨p, cap, ess, h0, h1, fun i d es hd he => by
      obtain ⟨a1, q, c, a2, a3, a4⟩ := h2 i d es hd he
      exact ⟨a1, q, c, a2, a3, fun hp a ha => Nat.lt_succ_of_lt (a4 hp a ha)⟩, fun hn => by
      obtain ⟨b, o, e, hb, hc⟩ := h3 hn
      exact ⟨b, o, e, Nat.lt_succ_of_lt hb, hc⟩⟩
  · have hi : i = 0 := by have := (List.getElem?_eq_some_iff.1 he).1; simpa using this
    subst hi
    simp at he
    subst he
    rw [Nat.zero_mul]
    exact (Blk.new w (k.cells (.slice q k.ds.length c)) 39).range
theorem SdsLo.up {w : World} {base B : Nat} {v : Value} {ds : List Sd} (h : SdsLo w base v ds) (hb : base ≤ B) : SdsLo w B v ds := by
  obtain ⟨p, cap, ess, h0, h1, h2, h3⟩ := h
  exact ⟨p, cap, ess, h0, h1, fun i d es hd he => by
    obtain ⟨a1, q, c, a2, a3, a4⟩ := h2 i d es hd he
    exact ⟨a1, q, c, a2, a3, fun hp a ha => Nat.lt_of_lt_of_le (a4 hp a ha) hb⟩, fun hn => by
    obtain ⟨b, o, e, hb', hc⟩ := h3 hn
    exact ⟨b, o, e, Nat.lt_of_lt_of_le hb' hb, hc⟩⟩
theorem body_le (d : Sd) (ht : d.tag.length = 32) : (bodL d).length ≤ 1000000 := by
  unfold bodL
  split
  · rename_i h; have := body_len (Sd.nn h ht); omega
  · simp
theorem sld_le (d : Sd) (ht : d.tag.length = 32) : (sldL d).length ≤ 1000000 := by
  unfold sldL
  split
  · rename_i h; have := sd_len (Sd.nn h ht); omega
  · simp
theorem flatD_le : ∀ (ds : List Sd), (∀ d ∈ ds, d.Nn) → (ds.flatMap Sd.bytes).length ≤ 62000 * ds.length
  | [], _ => by simp
  | d :: ds, h => by
    have h1 := sd_len (h d (by simp))
    have h2 := flatD_le ds (fun x hx => h x (by simp [hx]))
    rw [List.flatMap_cons, List.length_append, List.length_cons]; omega
theorem blk_le (k : Bk) (hf : BkFit k) : (blkLst k).length ≤ 100000000 := by
  unfold blkLst
  split
  · rename_i h
    have hn := Bk.nn h hf
    have h1 := sev_len10 (n := k.tn.toNat) (by have := hn.t1; omega)
    have h2 := sev_len10 (n := k.ds.length) (by have := hn.dl; omega)
    have h3 := flatD_le k.ds hn.ds
    have := hn.dl
    have := hn.p; have := hn.r; have := hn.s
    simp only [Bk.bytes, sdsB, List.length_append]
    omega
  · simp
theorem cla_le (r : Rs) (hl : r.la.length = 32) (ht : r.tg.length = 32) : (claL r).length ≤ 100 ∧ (resL r).length ≤ 200 := by
  unfold claL resL
  split
  · rename_i h
    have hn := Rs.nn h hl ht
    have l1 := sev_len10 hn.m
    have l2 := sev_len10 (n := r.tn.toNat) (by have := hn.t1; omega)
    have l3 := sev_len10 (n := (r.wn + 1).toNat) (by have := hn.w1; omega)
    have := hn.la; have := hn.tg
    simp only [Rs.bytes, Rs.claim, List.length_append]; omega
  · simp
set_option maxRecDepth 100000 in
set_option maxHeartbeats 16000000 in
theorem writes_walk (k : Bk) (hraw : BkRaw k) (q : Option Addr) (N qc : Nat) (hN : N = k.ds.length) (r : Rs) (hr : RsRaw r) (hwn : r.wn ≤ 9223372036854775807 ∧ -9223372036854775808 ≤ r.wn) (w : World) (hC : SdsLo w w.heap.size (.slice q N qc) k.ds) :
    Calls Try.prog 4 #[.agg (k.cells (.slice q N qc)).toArray, .agg r.cells.toArray] w fun e w' => OutT w e w' := by
  have h9 : Hid (∀ W, Calls Try.prog 9 #[] W fun e w' => e = .returned (.bool true) ∧ Below W.heap.size W w') := awake_any
  have h19 : Hid (∀ (W : World) (g : Nat), BksLo W W.heap.size (.slice (some ⟨g, 0, none⟩) 1 1) [k] → Calls Try.prog 19 #[.slice (some ⟨g, 0, none⟩) 1 1] W fun e w' => FewOk [k] 1 W e w') := fun W g h => few19 [k] (by simpa using hraw) _ 1 1 W rfl h (by omega)
  have h14 : Hid (∀ (bs : List Nat) (p0 p1 : Option Addr) (M cap0 cap1 : Nat) (w : World), M = bs.length → BytesAt w (.slice p0 M cap0) bs → BytesAt w (.slice p1 M cap1) bs → M < 4611686018427387904 → Calls Try.prog 14 #[.slice p0 M cap0, .slice p1 M cap1] w fun e w' => e = .returned (.bool true) ∧ ∃ n, w' = w.drewN n) := same_any
  obtain ⟨E, hE⟩ : ∃ E, E = k.cells (.slice q N qc) := ⟨_, rfl⟩
  obtain ⟨F, hF⟩ : ∃ F, F = r.cells := ⟨_, rfl⟩
  have hEl : E.length = 98 := by rw [hE]; exact bkL_length _ _ _ _ _ (by rw [List.length_map]; exact hraw.p.1) (by rw [List.length_map]; exact hraw.r.1) (by rw [List.length_map]; exact hraw.s.1)
  have hFl : F.length = 67 := by rw [hF]; exact rsC_length _ _ _ _ _ (by rw [List.length_map]; exact hr.la.1) (by rw [List.length_map]; exact hr.tg.1)
  have hi39 : (Try.prog.info? 39).map (·.size) = some E.length := by rw [hEl]; exact size39
  have hi41 : (Try.prog.info? 41).map (·.size) = some F.length := by rw [hFl]; exact size41
  obtain ⟨W, hW⟩ : ∃ W, W = (w.alloc (.cells E.toArray 39)).alloc (.cells F.toArray 41) := ⟨_, rfl⟩
  obtain ⟨B, hBB⟩ : ∃ B, B = w.heap.size := ⟨_, rfl⟩
  have HBW : Hid (Below w.heap.size w W) := by rw [hW]; exact ((Below.refl _ _).alloc (Nat.le_refl _) _).alloc (by simp) _
  have HQ : Hid (Blk W B E 39) := by rw [hW, hBB]; exact (Blk.new _ _ _).alloc _
  have HQ2 : Hid (Blk W (B + 1) F 41) := by rw [hW]; exact Blk.new' _ _ _ _ (by simp [hBB])
  have HLO : Hid (∀ W1, Below W.heap.size W W1 → SdsLo W1 W1.heap.size (.slice q N qc) k.ds) := fun W1 hb => (hC.below (HBW.out.trans (hb.mono HBW.out.size))).up (Nat.le_trans HBW.out.size hb.size)
  have HONE : Hid (∀ (W1 : World), Below W.heap.size W W1 → BksLo (W1.alloc (.cells E.toArray 39)) (W1.alloc (.cells E.toArray 39)).heap.size (.slice (some ⟨W1.heap.size, 0, none⟩) 1 1) [k]) := fun W1 hb => by
    rw [show (W1.alloc (.cells E.toArray 39)).heap.size = W1.heap.size + 1 by simp, hE]
    exact bks_one W1 k ⟨hraw.p.1, hraw.r.1, hraw.s.1⟩ q N qc hN (HLO.out W1 hb)
  have HK : Hid (∀ w', Below W.heap.size W w' → w'.cell? ⟨B, 97, none⟩ = some (.slice q N qc)) := fun w' hb => by
    have hB := HQ.out.below hb HQ.out.lt
    rw [hB.cell 97, hE]
    exact bkL_get97 _ _ _ _ _ (by rw [List.length_map]; exact hraw.p.1) (by rw [List.length_map]; exact hraw.r.1) (by rw [List.length_map]; exact hraw.s.1)
  have HFIT : Hid (Small k → BkFit k ∧ k.ds.length < 1000000000) := fun h => bk_fit hraw h
  have h26 : Hid (Small k → ∀ W1, Below W.heap.size W W1 → Calls Try.prog 26 #[.agg E.toArray] W1 fun e w' => OutE W1 W1.heap.size (blkLst k) (blkErr k) e w') := fun hs W1 hb => by
    rw [hE]; exact block26 k (bk_fit hraw hs).1 q N qc hN (by rw [hN]; exact (bk_fit hraw hs).2) W1 (HLO.out W1 hb)
  have h27 : Hid (Small k → ∀ W1, Below W.heap.size W W1 → Calls Try.prog 27 #[.agg E.toArray] W1 fun e w' => OutE W1 W1.heap.size (blkLst k) (blkErr k) e w') := fun hs W1 hb => by
    rw [hE]; exact rblock27 k (bk_fit hraw hs).1 q N qc hN (by rw [hN]; exact (bk_fit hraw hs).2) W1 (HLO.out W1 hb)
  have HBLE : Hid (Small k → (blkLst k).length ≤ 100000000) := fun hs => blk_le k (bk_fit hraw hs).1
  have h28 : Hid (∀ W1, Calls Try.prog 28 #[.agg F.toArray] W1 fun e w' => OutE W1 W1.heap.size (resL r) (resE r) e w') := fun W1 => by rw [hF]; exact result28 r hr.m hr.la.1 hr.tg.1 W1
  have h29 : Hid (∀ W1, Calls Try.prog 29 #[.agg F.toArray] W1 fun e w' => OutE W1 W1.heap.size (resL r) (resE r) e w') := fun W1 => by rw [hF]; exact rresult29 r hr.m hwn hr.la.1 hr.tg.1 W1
  have h30 : Hid (∀ W1, Calls Try.prog 30 #[.agg F.toArray] W1 fun e w' => OutE W1 W1.heap.size (claL r) (resE r) e w') := fun W1 => by rw [hF]; exact claim30 r hr.m hr.la.1 hr.tg.1 W1
  have h31 : Hid (∀ W1, Calls Try.prog 31 #[.agg F.toArray] W1 fun e w' => OutE W1 W1.heap.size (claL r) (resE r) e w') := fun W1 => by rw [hF]; exact rclaim31 r hr.m hwn hr.la.1 hr.tg.1 W1
  have HCLE := hid (cla_le r hr.la.1 hr.tg.1)
  obtain ⟨p', c', ess, he, hel, hmem, hrow⟩ := HLO.out W (Below.refl _ _)
  simp at he
  obtain ⟨rfl, -, rfl⟩ := he
  have hELT : Hid (Small k → ∀ i, i < N → ∃ (d : Sd) (D : List Value) (b o : Nat) (n : Nat) (g : Option Addr) (gc : Nat), q = some ⟨b, o, none⟩ ∧ D.length = 37 ∧ n = d.cs.length ∧ n ≤ 2000 ∧ d.tag.length = 32 ∧ (∀ w', Below W.heap.size W w' → w'.rangeAt b (o + i * 37) D) ∧ (∀ w', Below W.heap.size W w' → w'.cell? ⟨b, o + i * 37 + 4, none⟩ = some (.slice g n gc)) ∧
      (∀ W1, Below W.heap.size W W1 → Calls Try.prog 20 #[.agg D.toArray] W1 fun e w' => OutE W1 W1.heap.size (sldL d) (sldE d) e w') ∧ (∀ W1, Below W.heap.size W W1 → Calls Try.prog 21 #[.agg D.toArray] W1 fun e w' => OutE W1 W1.heap.size (sldL d) (sldE d) e w') ∧
      (∀ W1, Below W.heap.size W W1 → Calls Try.prog 22 #[.agg D.toArray] W1 fun e w' => OutE W1 W1.heap.size (bodL d) (sldE d) e w') ∧ (∀ W1, Below W.heap.size W W1 → Calls Try.prog 23 #[.agg D.toArray] W1 fun e w' => OutE W1 W1.heap.size (bodL d) (sldE d) e w') ∧
      (∀ j, j < n → ∃ (b2 o2 : Nat) (c : C6), g = some ⟨b2, o2, none⟩ ∧ ∀ w', Below W.heap.size W w' → ∀ (u : Nat) (z : Value), c.cells[u]? = some z → w'.cell? ⟨b2, o2 + j * 6 + u, none⟩ = some z)) := fun hs i hi => by
    have hlb : i < k.ds.length := by omega
    have hne : k.ds ≠ [] := by intro h; rw [h] at hlb; simp at hlb
    obtain ⟨b, o, rfl, hbl, hc⟩ := hrow hne
    obtain ⟨d, hdi⟩ : ∃ d, k.ds[i]? = some d := ⟨_, List.getElem?_eq_getElem hlb⟩
    obtain ⟨D, hDi⟩ : ∃ D, ess[i]? = some D := ⟨_, List.getElem?_eq_getElem (by omega)⟩
    obtain ⟨hDl, g, gc, hDd, hCm, hgb⟩ := hmem i d D hdi hDi
    have hdr := hraw.d d (List.mem_of_getElem? hdi)
    have hd2 := hs.2 d (List.mem_of_getElem? hdi)
    have hrg : ∀ w', Below W.heap.size W w' → w'.rangeAt b (o + i * 37) D := fun w' hb j u hu => by
      have h9 := hc i D hDi j u hu
      rw [hb.cell (p := ⟨b, o + i * 37 + j, none⟩) (lt_of_cell h9)]; exact h9
    refine ⟨d, D, b, o, d.cs.length, g, gc, rfl, hDl, rfl, hd2, hdr.tg, hrg, fun w' hb => hrg w' hb 4 _ (by rw [hDd]; rfl), fun W1 hb => ?_, fun W1 hb => ?_, fun W1 hb => ?_, fun W1 hb => ?_, fun j hj => ?_⟩
    · rw [hDd]; exact sealed20 d hdr.m hdr.tg g _ gc rfl (by omega) W1 (hCm.below hb) (fun hp a ha => Nat.lt_of_lt_of_le (hgb hp a ha) hb.size)
    · rw [hDd]; exact rsealed21 d hdr.m hdr.tg g _ gc rfl (by omega) W1 (hCm.below hb)
    · rw [hDd]; exact body22 d hdr.m hdr.tg g _ gc rfl (by omega) W1 (hCm.below hb) (fun hp a ha => Nat.lt_of_lt_of_le (hgb hp a ha) hb.size)
    · rw [hDd]; exact rbody23 d hdr.m hdr.tg g _ gc rfl (by omega) W1 (hCm.below hb)
    · obtain ⟨p', c', he, hh⟩ := hCm
      simp at he
      obtain ⟨rfl, rfl⟩ := he
      obtain ⟨b2, o2, rfl, hcc⟩ := hh (by intro h; rw [h] at hj; simp at hj)
      refine ⟨b2, o2, d.cs.getD j ⟨0, 0, 0, 0, 0, 0⟩, rfl, fun w' hb u z hz => ?_⟩
      have h9 := hcc j _ (by rw [List.getD, List.getElem?_eq_getElem hj]; rfl) u z hz
      rw [hb.cell (p := ⟨b2, o2 + j * 6 + u, none⟩) (lt_of_cell h9)]; exact h9
  have h24 : Hid (∀ (c : C6) W, Calls Try.prog 24 #[.agg #[.int .i64 c.k, .int .i64 c.u, .int .i64 c.t, .int .i64 c.h, .int .i64 c.x, .int .i64 c.y]] W fun e w' => e = .returned (.bool c.ok) ∧ Below W.heap.size W w') := fun c W => formed_any _ _ _ _ _ _ W
  have h25 : Hid (∀ (c : C6) W, Calls Try.prog 25 #[.agg #[.int .i64 c.k, .int .i64 c.u, .int .i64 c.t, .int .i64 c.h, .int .i64 c.x, .int .i64 c.y]] W fun e w' => e = .returned (.bool c.ok) ∧ Below W.heap.size W w') := fun c W => formed25 _ _ _ _ _ _ W
  have HSLE := hid sld_le
  have HBOLE := hid body_le
  have HNK := hid (fun (_ : Nat) => hN)
  have hbld := hid (fun W => run_build39 E hEl W)
  unfold OutT
  unfold FewOk at h19
  unfold OutE at h26 h27 h28 h29 h30 h31 hELT
  rw [← hE, ← hF]
  generalize resL r = RL at *
  generalize resE r = RE at *
  generalize claL r = CLL at *
  generalize blkLst k = KL at *
  generalize blkErr k = KE at *
  clear hE hF hC hraw hEl hFl hN hr hwn hmem hrow hel
  go_enter Try.func4, Try.ntmps4
  go_upto_region 1 with fail
  rw [← hW, ← hBB]
  clear hW hBB
  go_wp2_with fail
  refine Calls.mono (h9.out _) ?_
  rintro e w1 ⟨rfl, hb1⟩
  have HB1 := hid hb1
  have hr1 : w1.rangeAt B 0 E := (HQ.out.below hb1 HQ.out.lt).range
  clear hb1
  go_wp2_with (first
    | ((with_reducible refine wpL_loadG 39 B 0 E _ ?_ ?_ hr1 Try.underlying39 ?_ hi39 ?_); (rfl); (rfl); (rfl); (simp only [Act.put, List.setIfInBounds_toArray, List.set_cons_zero, List.set_cons_succ]))
    | ((with_reducible refine wpL_bsG 43 39 E ?_ ?_ hbld.out ?_); (rfl); (rfl); (simp only [Act.put, List.setIfInBounds_toArray, List.set_cons_zero, List.set_cons_succ])))
  refine Calls.mono (h19.out _ _ (HONE.out w1 HB1.out)) ?_
  rintro e w2 ⟨bb, rfl, hw2, hsm⟩
  have HB2 : Hid (Below W.heap.size W w2) := by rw [hw2]; exact HB1.out.alloc HB1.out.size _
  have HSM : Hid (bb = true → Small k) := fun h => (hsm h).2 k (by simp)
  clear hw2 hsm hr1
  rcases bb with _ | _
  · go_wp2_with fail
    refine Calls.mono (h9.out _) ?_
    rintro e w3 ⟨rfl, hb3⟩
    have HB3 := hid (HB2.out.trans (hb3.mono HB2.out.size))
    clear hb3
    go_wp2
    go_ret
    exact ⟨rfl, HBW.out.trans (HB3.out.mono HBW.out.size)⟩
  have hsm := HSM.out rfl
  have H26 := hid (h26.out hsm)
  have H27 := hid (h27.out hsm)
  have HEL := hid (hELT.out hsm)
  have HBL := hid (HBLE.out hsm)
  have hNb : N ≤ 2000 := by have := hsm.1; have := HNK.out 0; omega
  have hNb' : (N : Int) ≤ 2000 := by omega
  clear hsm h26 h27 hELT HBLE HSM HNK HFIT
  go_wp2_with fail
  go_loopw [5] (fun iv wr => ∃ i : Nat, iv = .int .i64 (i : Nat) ∧ i ≤ N ∧ Hid (Below W.heap.size W wr)) (fun iv _ => N - (intOf iv).toNat)
  case atStart => exact ⟨0, rfl, by omega, HB2⟩
  case round =>
    clear HB2
    obtain ⟨i, rfl, hi, HB3⟩ := hrel
    have a97 := HK.out wr HB3.out
    by_cases hlt : i < N
    · obtain ⟨d, D, b, o, n, g, gc, rfl, hDl, hn, hn2, htg, hrg, hc4, k20, k21, k22, k23, hcm⟩ := HEL.out i hlt
      have e2 : (i : Int) < (N : Int) := by omega
      have e3 : (0 : Int) ≤ (i : Int) := by omega
      have hn3 : (n : Int) ≤ 2000 := by omega
      have hi47 : Hid ((Try.prog.info? 47).map (·.size) = some D.length) := by rw [hDl]; exact hid size47
      have HRG := hid hrg
      have HC4 := hid hc4
      have K20 := hid k20
      have K21 := hid k21
      have K22 := hid k22
      have K23 := hid k23
      have HCM := hid hcm
      have HSL := hid (HSLE.out d htg)
      have HBO := hid (HBOLE.out d htg)
      generalize sldL d = SL at *
      generalize sldE d = SE at *
      generalize bodL d = BO at *
      clear hrg hc4 k20 k21 k22 k23 hcm hDl htg hn hn2
      have hr3 := HRG.out wr HB3.out
      go_wp2_with (first
        | ((with_reducible refine wpL_load 47 b (o + i * 37) D _ ?_ hr3 Try.underlying47 ?_ hi47.out ?_); (rfl); (rfl); (simp only [Act.put, List.setIfInBounds_toArray, List.set_cons_zero, List.set_cons_succ])))
      refine Calls.mono (K20.out _ HB3.out) ?_
      rintro e v4 ⟨pa, Na, ca, hNa, rfl, hoa, hba⟩
      have HB4 := hid (HB3.out.trans (hba.mono HB3.out.size))
      have HOa4 := hid hoa.bytes
      have HNa := hid hNa
      clear hoa hba hNa hr3 a97 
      have hr4 := HRG.out _ HB4.out
      have a97 := HK.out _ HB4.out
      go_wp2_with (first
        | ((with_reducible refine wpL_load 47 b (o + i * 37) D _ ?_ hr4 Try.underlying47 ?_ hi47.out ?_); (rfl); (rfl); (simp only [Act.put, List.setIfInBounds_toArray, List.set_cons_zero, List.set_cons_succ])))
      refine Calls.mono (K21.out _ HB4.out) ?_
      rintro e v5 ⟨pb, Nb, cb, hNb, rfl, hob, hbb⟩
      have HB5 := hid (HB4.out.trans (hbb.mono HB4.out.size))
      have HOb5 := hid hob.bytes
      have HNb := hid hNb
      have HOa5 := hid (HOa4.out.below hbb)
      clear hob hbb hNb hr4 a97 HOa4
      have hr5 := HRG.out _ HB5.out
      have a97 := HK.out _ HB5.out
      go_wp2_with (first
        | ((with_reducible refine wpL_load 47 b (o + i * 37) D _ ?_ hr5 Try.underlying47 ?_ hi47.out ?_); (rfl); (rfl); (simp only [Act.put, List.setIfInBounds_toArray, List.set_cons_zero, List.set_cons_succ])))
      refine Calls.mono (K22.out _ HB5.out) ?_
      rintro e v6 ⟨pc, Nc, cc, hNc, rfl, hoc, hbc⟩
      have HB6 := hid (HB5.out.trans (hbc.mono HB5.out.size))
      have HOc6 := hid hoc.bytes
      have HNc := hid hNc
      have HOa6 := hid (HOa5.out.below hbc)
      have HOb6 := hid (HOb5.out.below hbc)
      clear hoc hbc hNc hr5 a97 HOa5 HOb5
      have hr6 := HRG.out _ HB6.out
      have a97 := HK.out _ HB6.out
      go_wp2_with (first
        | ((with_reducible refine wpL_load 47 b (o + i * 37) D _ ?_ hr6 Try.underlying47 ?_ hi47.out ?_); (rfl); (rfl); (simp only [Act.put, List.setIfInBounds_toArray, List.set_cons_zero, List.set_cons_succ])))
      refine Calls.mono (K23.out _ HB6.out) ?_
      rintro e v7 ⟨pd, Nd, cd, hNd, rfl, hod, hbd⟩
      have HB7 := hid (HB6.out.trans (hbd.mono HB6.out.size))
      have HOd7 := hid hod.bytes
      have HNd := hid hNd
      have HOa7 := hid (HOa6.out.below hbd)
      have HOb7 := hid (HOb6.out.below hbd)
      have HOc7 := hid (HOc6.out.below hbd)
      clear hod hbd hNd hr6 a97 HOa6 HOb6 HOc6
      have hr7 := HRG.out _ HB7.out
      have a97 := HK.out _ HB7.out
      obtain rfl : Na = Nb := HNa.out.trans HNb.out.symm
      obtain rfl : Nc = Nd := HNc.out.trans HNd.out.symm
      have HLA : Hid (Na < 4611686018427387904) := by rw [HNa.out]; exact hid (by have := HSL.out; omega)
      have HLC : Hid (Nc < 4611686018427387904) := by rw [HNc.out]; exact hid (by have := HBO.out; omega)
      clear hr7 HNb HNd
      go_wp2_with fail
      refine Calls.mono (h14.out SL pa pb Na ca cb _ HNa.out HOa7.out HOb7.out HLA.out) ?_
      rintro e v8 ⟨rfl, n8, hw8⟩
      have HB8 : Hid (Below W.heap.size W v8) := by rw [hw8]; exact Below.drewN HB7.out n8
      have HOc8 : Hid (BytesAt v8 (.slice pc Nc cc) BO) := by rw [hw8]; exact HOc7.out.below (Below.drewN (Below.refl _ _) n8)
      have HOd8 : Hid (BytesAt v8 (.slice pd Nc cd) BO) := by rw [hw8]; exact HOd7.out.below (Below.drewN (Below.refl _ _) n8)
      clear hw8 HOa7 HOb7 HOc7 HOd7 a97
      go_wp2_with fail
      refine Calls.mono (h14.out BO pc pd Nc cc cd _ HNc.out HOc8.out HOd8.out HLC.out) ?_
      rintro e v9 ⟨rfl, n9, hw9⟩
      have HB9 : Hid (Below W.heap.size W v9) := by rw [hw9]; exact Below.drewN HB8.out n9
      clear hw9 HOc8 HOd8
      have a97 := HK.out _ HB9.out
      go_wp2_with fail
      go_loopw [14] (fun jv wr => ∃ j : Nat, jv = .int .i64 (j : Nat) ∧ j ≤ n ∧ Hid (Below W.heap.size W wr)) (fun jv _ => n - (intOf jv).toNat)
      case atStart => exact ⟨0, rfl, by omega, HB9⟩
      case round =>
        clear HB3 HB4 HB5 HB6 HB7 HB8 HB9 a97
        obtain ⟨j, rfl, hj, HBJ⟩ := hrel
        by_cases hjl : j < n
        · obtain ⟨b2, o2, c, rfl, hcc⟩ := HCM.out j hjl
          have j2 : (j : Int) < (n : Int) := by omega
          have j3 : (0 : Int) ≤ (j : Int) := by omega
          rename World => wj
          have a97 := HK.out wj HBJ.out
          have a4 := HC4.out wj HBJ.out
          have HCC := hid hcc
          have k24 := hid (h24.out c)
          have k25 := hid (h25.out c)
          obtain ⟨ck, cu, ct, ch, cx, cy⟩ := c
          simp only at k24 k25 HCC
          generalize (⟨ck, cu, ct, ch, cx, cy⟩ : C6).ok = ok at *
          clear hcc
          go_upto_region 15 with fail
          have n0 : ∀ x : Nx wj, x.w.cell? ⟨B, 97, none⟩ = some (.slice (some ⟨b, o, none⟩) N qc) := fun x => HK.out x.w (HBJ.out.trans (x.h.mono HBJ.out.size))
          have n1 : ∀ x : Nx wj, x.w.cell? ⟨b, o + i * 37 + 4, none⟩ = some (.slice (some ⟨b2, o2, none⟩) n gc) := fun x => HC4.out x.w (HBJ.out.trans (x.h.mono HBJ.out.size))
          have m0 : ∀ x : Nx wj, x.w.cell? ⟨b2, o2 + j * 6, none⟩ = some (.int .i64 ck) := fun x => HCC.out x.w (HBJ.out.trans (x.h.mono HBJ.out.size)) 0 _ rfl
          have m1 : ∀ x : Nx wj, x.w.cell? ⟨b2, o2 + j * 6 + 1, none⟩ = some (.int .i64 cu) := fun x => HCC.out x.w (HBJ.out.trans (x.h.mono HBJ.out.size)) 1 _ rfl
          have m2 : ∀ x : Nx wj, x.w.cell? ⟨b2, o2 + j * 6 + 2, none⟩ = some (.int .i64 ct) := fun x => HCC.out x.w (HBJ.out.trans (x.h.mono HBJ.out.size)) 2 _ rfl
          have m3 : ∀ x : Nx wj, x.w.cell? ⟨b2, o2 + j * 6 + 3, none⟩ = some (.int .i64 ch) := fun x => HCC.out x.w (HBJ.out.trans (x.h.mono HBJ.out.size)) 3 _ rfl
          have m4 : ∀ x : Nx wj, x.w.cell? ⟨b2, o2 + j * 6 + 4, none⟩ = some (.int .i64 cx) := fun x => HCC.out x.w (HBJ.out.trans (x.h.mono HBJ.out.size)) 4 _ rfl
          have m5 : ∀ x : Nx wj, x.w.cell? ⟨b2, o2 + j * 6 + 5, none⟩ = some (.int .i64 cy) := fun x => HCC.out x.w (HBJ.out.trans (x.h.mono HBJ.out.size)) 5 _ rfl
          have HBD : Hid (Below wj.heap.size wj wj.drew) := Below.drewN (Below.refl _ _) 1
          refine wp_region_calm (S := fun w' => ∃ x : Nx wj, w' = x.w) [(0, false), (1, false), (2, false), (3, false), (4, false), (5, false), (6, false), (7, false), (8, false), (10, false), (11, false), (12, false), (13, false), (14, false), (15, false), (16, false), (17, false), (18, false), (9, true), (19, true), (20, false)] (by kernel_rfl) (by kernel_rfl) rfl (by kernel_rfl) ⟨⟨wj.drew, HBD.out⟩, rfl⟩ ?_
          obtain ⟨U, hU⟩ : ∃ U, U = wj.drew := ⟨_, rfl⟩
          rw [← hU] at HBD ⊢
          clear hU
          iterate 18 (refine plan_take rfl (fun K hK => ?_); go_simp; refine ⟨_, fun _ => rfl, hK _ ?_⟩; clear hK K)
          refine plan_turn rfl (fun K hK => ?_)
          go_simp
          refine Calls.mono (k24.out _) ?_
          rintro _ u1 ⟨rfl, hu1⟩
          have HU1 := hid (HBD.out.trans (hu1.mono HBD.out.size))
          refine hK _ _ ⟨⟨u1, HU1.out⟩, rfl⟩ ?_
          clear hK K hu1
          refine plan_turn rfl (fun K hK => ?_)
          go_simp
          refine Calls.mono (k25.out _) ?_
          rintro _ u2 ⟨rfl, hu2⟩
          have HU2 := hid (HU1.out.trans (hu2.mono HU1.out.size))
          refine hK _ _ ⟨⟨u2, HU2.out⟩, rfl⟩ ?_
          clear hK K hu2
          (refine plan_take rfl (fun K hK => ?_); go_simp; refine ⟨_, fun _ => rfl, hK _ ?_⟩; clear hK K)
          refine plan_done ⟨rfl, ?_⟩
          have HBJ2 := hid (HBJ.out.trans (HU2.out.mono HBJ.out.size))
          clear n0 n1 m0 m1 m2 m3 m4 m5 a97 a4
          go_wp2
          go_roundw
          case rel => exact ⟨j + 1, by go_num, by omega, HBJ2⟩
          case measure => simp [intOf]; omega
        · obtain rfl : j = n := by omega
          have j2 : ((j : Int) < (j : Int)) = False := by simp
          rename World => wj
          have a97 := HK.out wj HBJ.out
          have a4 := HC4.out wj HBJ.out
          go_wp2
          go_roundw
          case rel => exact ⟨i + 1, by go_num, by omega, HBJ⟩
          case measure => simp [intOf]; omega
    · obtain rfl : i = N := by omega
      have e2 : ((i : Int) < (i : Int)) = False := by simp
      have hr3 : wr.rangeAt B 0 E := (HQ.out.below HB3.out HQ.out.lt).range
      go_wp2_with (first
        | ((with_reducible refine wpL_load 39 B 0 E _ ?_ hr3 Try.underlying39 ?_ hi39 ?_); (rfl); (rfl); (simp only [Act.put, List.setIfInBounds_toArray, List.set_cons_zero, List.set_cons_succ])))
      refine Calls.mono (H26.out _ HB3.out) ?_
      rintro e v4 ⟨pa, Na, ca, hNa, rfl, hoa, hba⟩
      have HB4 := hid (HB3.out.trans (hba.mono HB3.out.size))
      have HOa4 := hid hoa.bytes
      have HNa := hid hNa
      clear hoa hba hNa hr3 a97 
      have hr4 : v4.rangeAt B 0 E := (HQ.out.below HB4.out HQ.out.lt).range
      go_wp2_with (first
        | ((with_reducible refine wpL_load 39 B 0 E _ ?_ hr4 Try.underlying39 ?_ hi39 ?_); (rfl); (rfl); (simp only [Act.put, List.setIfInBounds_toArray, List.set_cons_zero, List.set_cons_succ])))
      refine Calls.mono (H27.out _ HB4.out) ?_
      rintro e v5 ⟨pb, Nb, cb, hNb, rfl, hob, hbb⟩
      have HB5 := hid (HB4.out.trans (hbb.mono HB4.out.size))
      have HOb5 := hid hob.bytes
      have HNb := hid hNb
      have HOa5 := hid (HOa4.out.below hbb)
      clear hob hbb hNb hr4  HOa4
      have hr5 : v5.rangeAt (B + 1) 0 F := (HQ2.out.below HB5.out HQ2.out.lt).range
      go_wp2_with (first
        | ((with_reducible refine wpL_load 41 (B + 1) 0 F _ ?_ hr5 Try.underlying41 ?_ hi41 ?_); (rfl); (rfl); (simp only [Act.put, List.setIfInBounds_toArray, List.set_cons_zero, List.set_cons_succ])))
      refine Calls.mono (h28.out _) ?_
      rintro e v6 ⟨pc, Nc, cc, hNc, rfl, hoc, hbc⟩
      have HB6 := hid (HB5.out.trans (hbc.mono HB5.out.size))
      have HOc6 := hid hoc.bytes
      have HNc := hid hNc
      have HOa6 := hid (HOa5.out.below hbc)
      have HOb6 := hid (HOb5.out.below hbc)
      clear hoc hbc hNc hr5  HOa5 HOb5
      have hr6 : v6.rangeAt (B + 1) 0 F := (HQ2.out.below HB6.out HQ2.out.lt).range
      go_wp2_with (first
        | ((with_reducible refine wpL_load 41 (B + 1) 0 F _ ?_ hr6 Try.underlying41 ?_ hi41 ?_); (rfl); (rfl); (simp only [Act.put, List.setIfInBounds_toArray, List.set_cons_zero, List.set_cons_succ])))
      refine Calls.mono (h29.out _) ?_
      rintro e v7 ⟨pd, Nd, cd, hNd, rfl, hod, hbd⟩
      have HB7 := hid (HB6.out.trans (hbd.mono HB6.out.size))
      have HOd7 := hid hod.bytes
      have HNd := hid hNd
      have HOa7 := hid (HOa6.out.below hbd)
      have HOb7 := hid (HOb6.out.below hbd)
      have HOc7 := hid (HOc6.out.below hbd)
      clear hod hbd hNd hr6  HOa6 HOb6 HOc6
      have hr7 : v7.rangeAt (B + 1) 0 F := (HQ2.out.below HB7.out HQ2.out.lt).range
      go_wp2_with (first
        | ((with_reducible refine wpL_load 41 (B + 1) 0 F _ ?_ hr7 Try.underlying41 ?_ hi41 ?_); (rfl); (rfl); (simp only [Act.put, List.setIfInBounds_toArray, List.set_cons_zero, List.set_cons_succ])))
      refine Calls.mono (h30.out _) ?_
      rintro e v8 ⟨pf, Nf, cf, hNf, rfl, hof, hbf⟩
      have HB8 := hid (HB7.out.trans (hbf.mono HB7.out.size))
      have HOf8 := hid hof.bytes
      have HNf := hid hNf
      have HOa8 := hid (HOa7.out.below hbf)
      have HOb8 := hid (HOb7.out.below hbf)
      have HOc8 := hid (HOc7.out.below hbf)
      have HOd8 := hid (HOd7.out.below hbf)
      clear hof hbf hNf hr7  HOa7 HOb7 HOc7 HOd7
      have hr8 : v8.rangeAt (B + 1) 0 F := (HQ2.out.below HB8.out HQ2.out.lt).range
      go_wp2_with (first
        | ((with_reducible refine wpL_load 41 (B + 1) 0 F _ ?_ hr8 Try.underlying41 ?_ hi41 ?_); (rfl); (rfl); (simp only [Act.put, List.setIfInBounds_toArray, List.set_cons_zero, List.set_cons_succ])))
      refine Calls.mono (h31.out _) ?_
      rintro e v9 ⟨pg, Ng, cg, hNg, rfl, hog, hbg⟩
      have HB9 := hid (HB8.out.trans (hbg.mono HB8.out.size))
      have HOg9 := hid hog.bytes
      have HNg := hid hNg
      have HOa9 := hid (HOa8.out.below hbg)
      have HOb9 := hid (HOb8.out.below hbg)
      have HOc9 := hid (HOc8.out.below hbg)
      have HOd9 := hid (HOd8.out.below hbg)
      have HOf9 := hid (HOf8.out.below hbg)
      clear hog hbg hNg hr8  HOa8 HOb8 HOc8 HOd8 HOf8
      obtain rfl : Na = Nb := HNa.out.trans HNb.out.symm
      obtain rfl : Nc = Nd := HNc.out.trans HNd.out.symm
      obtain rfl : Nf = Ng := HNf.out.trans HNg.out.symm
      have HLA : Hid (Na < 4611686018427387904) := by rw [HNa.out]; exact hid (by have := HBL.out; omega)
      have HLC : Hid (Nc < 4611686018427387904) := by rw [HNc.out]; exact hid (by have := HCLE.out.2; omega)
      have HLF : Hid (Nf < 4611686018427387904) := by rw [HNf.out]; exact hid (by have := HCLE.out.1; omega)
      clear HNb HNd HNg
      go_wp2_with fail
      refine Calls.mono (h14.out KL pa pb Na ca cb _ HNa.out HOa9.out HOb9.out HLA.out) ?_
      rintro e x1 ⟨rfl, n1, hw1⟩
      have HX1 : Hid (Below W.heap.size W x1) := by rw [hw1]; exact Below.drewN HB9.out n1
      have Oc1 : Hid (BytesAt x1 (.slice pc Nc cc) RL) := by rw [hw1]; exact HOc9.out.below (Below.drewN (Below.refl _ _) n1)
      have Od1 : Hid (BytesAt x1 (.slice pd Nc cd) RL) := by rw [hw1]; exact HOd9.out.below (Below.drewN (Below.refl _ _) n1)
      have Of1 : Hid (BytesAt x1 (.slice pf Nf cf) CLL) := by rw [hw1]; exact HOf9.out.below (Below.drewN (Below.refl _ _) n1)
      have Og1 : Hid (BytesAt x1 (.slice pg Nf cg) CLL) := by rw [hw1]; exact HOg9.out.below (Below.drewN (Below.refl _ _) n1)
      clear hw1 HOa9 HOb9 HOc9 HOd9 HOf9 HOg9
      go_wp2_with fail
      refine Calls.mono (h14.out RL pc pd Nc cc cd _ HNc.out Oc1.out Od1.out HLC.out) ?_
      rintro e x2 ⟨rfl, n2, hw2⟩
      have HX2 : Hid (Below W.heap.size W x2) := by rw [hw2]; exact Below.drewN HX1.out n2
      have Of2 : Hid (BytesAt x2 (.slice pf Nf cf) CLL) := by rw [hw2]; exact Of1.out.below (Below.drewN (Below.refl _ _) n2)
      have Og2 : Hid (BytesAt x2 (.slice pg Nf cg) CLL) := by rw [hw2]; exact Og1.out.below (Below.drewN (Below.refl _ _) n2)
      clear hw2 Oc1 Od1 Of1 Og1
      go_wp2_with fail
      refine Calls.mono (h14.out CLL pf pg Nf cf cg _ HNf.out Of2.out Og2.out HLF.out) ?_
      rintro e x3 ⟨rfl, n3, hw3⟩
      have HX3 : Hid (Below W.heap.size W x3) := by rw [hw3]; exact Below.drewN HX2.out n3
      clear hw3
      go_wp2
      go_ret
      exact ⟨rfl, HBW.out.trans (HX3.out.mono HBW.out.size)⟩
end Go.Proofs.Ytpiflgbcbhnmpaa
