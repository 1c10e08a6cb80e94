/- What appendSealed, Body and Sealed answer. -/
import Derived.Test.YtpiflgbcbhnmpaaWbody
/- What appendSealed, Body and Sealed answer. -/
namespace Go.Proofs.Ytpiflgbcbhnmpaa
open Go.RowKit
section
variable {ops : Array Oper} {Q : Exit → Act → World → Prop} {md : Region.Mode} {fuel : Nat} {listed : Array Bool} {a : Act} {w : World} {i : Nat} {rs : List Nat}
/-- append of bytes, in a region whose order is drawn. -/
theorem ready_append {dd : Option Tmp} {x y : Operand} {tt : TypeId} {pos : String} {af : Array Edge} (base : Nat) (v sv : Value) (xs bs : List Nat) (N : Nat) (hne : bs ≠ []) (hN : xs.length + bs.length = N)
    (ho : ops[i]? = some { dst := dd, op := .call { callee := .builtin .append, args := #[x, y], argTypes := #[23, 23] }, type := tt, pos := pos, after := af, guard := none })
    (hx : a.eval x = v) (hy : a.eval y = sv) (how : OwnB w base v xs) (hb : BytesAt w sv bs) (hsz : N ≤ 1099511627776) (hbase : base ≤ w.heap.size)
    (h : ∀ p cap w', OwnB w' base (.slice p N cap) (xs ++ bs) → Gro w v w' (.slice p N cap) → wpAny Try.prog md ops Q fuel (listed.setIfInBounds i true) (a.put dd (.slice p N cap)) w') (hs : AllReady Try.prog md ops Q fuel listed a w rs) : AllReady Try.prog md ops Q fuel listed a w (i :: rs) :=
  AllReady.cons ho (fun K hK => by
    rw [if_pos (by simp [Region.wanted])]
    subst hN
    obtain ⟨ii, hi, hz0, hz1, hz2⟩ := info_parts info5
    obtain ⟨p, cap, rfl, hc, hpn, hcell⟩ := hb
    obtain ⟨sb, so, rfl, hcl⟩ := hcell hne
    obtain ⟨v', w', hr, ho', hg, _, hat⟩ := run_append_own_at (P := Try.prog) w base 23 tt 5 ii (.int .u8 0) 1 1 Try.underlying23 hi hz0 hz1 hz2 rfl (by omega) v xs.length (xs.map By) how ⟨sb, so, .none⟩ bs.length cap (bs.map By) (by simp) (by
      intro j u hu
      have hj : j < bs.length := by have := (List.getElem?_eq_some_iff.1 hu).1; simpa using this
      rw [Addr.add_mid, hcl j hj, ← hu]
      simp [hj]) (mapBy_one bs) (by simp only [maxLen]; omega) (by omega) hbase
    have ho'' : OwnB w' base v' (xs ++ bs) := by unfold OwnB; rw [List.map_append, List.length_append]; exact ho'
    obtain ⟨p', cap', rfl⟩ := ho''.form
    rw [List.length_append] at ho'' hat hr
    have hG : Gro w v w' (.slice p' (xs.length + bs.length) cap') := ⟨hg.os, hg.tape, hg.output, hg.size, fun k hk hn => hg.block k hk (fun he => hn he.symm), by
      rcases hat with hat | hat
      · exact Or.inl hat
      · exact Or.inr (fun k hk => by rw [hat] at hk; cases hk; exact Nat.le_refl _)⟩
    unfold Oper.wp
    simp [execOp, resolve, invoke, builtin, hx, hy, hr, Result.andThen]
    exact hK _ _ (h p' cap' w' ho'' hG)) hs
end
def Sd.bytes (d : Sd) : List Nat := d.body ++ d.tag
theorem tag_bytes {W : World} {B : Nat} {d : Sd} {cv : Value} (h : Blk W B (d.cells cv) 47) (ht : d.tag.length = 32) : BytesAt W (.slice (some ⟨B, 5, none⟩) 32 32) d.tag := by
  refine ⟨_, 32, by rw [ht], by omega, (fun h => by cases h), fun _ => ⟨B, 5, rfl, fun i hi => ?_⟩⟩
  rw [h.cell, show 5 + i = i + 5 by omega]
  show (d.tag.map By)[i]? = _
  simp [hi]
theorem body_len {d : Sd} (hd : d.Nn) : d.body.length ≤ 61000 := by
  have l1 := sev_len10 hd.m
  have l2 := sev_len10 (n := d.pl.toNat) (by have := hd.p1; omega)
  have l3 := sev_len10 (n := d.tn.toNat) (by have := hd.t1; omega)
  have l4 : (sev (if d.em then 1 else 0)).length ≤ 10 := sev_len10 (by split <;> omega)
  have l5 := sev_len10 (n := d.cs.length) (by have := hd.cl; omega)
  have l6 : ∀ (cs : List C6), (∀ c ∈ cs, c.Nn) → (cs.flatMap C6.bytes).length ≤ 60 * cs.length := by
    intro cs
    induction cs with
    | nil => intro _; simp
    | cons c r ih =>
      intro hc
      have h1 := ih (fun x hx => hc x (by simp [hx]))
      obtain ⟨k0, k1, u0, u1, t0, t1, h0, h1', x0, x1, y0, y1⟩ := hc c (by simp)
      have h2 : c.bytes.length ≤ 60 := cmdB_len c.k.toNat c.u.toNat c.t.toNat c.h.toNat c.x.toNat c.y.toNat (by omega) (by omega) (by omega) (by omega) (by omega) (by omega)
      rw [List.flatMap_cons, List.length_append, List.length_cons]
      omega
  have l7 := l6 d.cs hd.cs
  have := hd.cl
  simp only [Sd.body, cmdsB, List.length_append]
  omega
set_option maxRecDepth 100000 in
set_option maxHeartbeats 4000000 in
theorem appendSealed52 (d : Sd) (hd : d.Nn) (q : Option Addr) (N qc : Nat) (hN : N = d.cs.length) (xs : List Nat) (base : Nat) (p : Option Addr) (M cap : Nat) (w : World) (hM : M = xs.length) (ho : OwnB w base (.slice p M cap) xs) (hbase : base ≤ w.heap.size) (hsz : M < 100000000) (hC : CmdsAt w (.slice q N qc) d.cs) (hA : Apart w (.slice p M cap) q N) :
    Calls Try.prog 52 #[.slice p M cap, .agg (d.cells (.slice q N qc)).toArray] w fun e w' => OutG w (.slice p M cap) base (xs ++ d.bytes) e w' := by
  have hal : Below w.heap.size w (w.alloc (.cells (d.cells (.slice q N qc)).toArray 47)) := (Below.refl _ _).alloc (Nat.le_refl _) _
  have hbx := Blk.new w (d.cells (.slice q N qc)) 47
  have hc := hid (appendBody55 d hd q N qc hN xs base p M cap (w.alloc (.cells (d.cells (.slice q N qc)).toArray 47)).drew hM (ho.below hal.drew) (Nat.le_trans hbase hal.size) (by omega) (hC.below hal.drew) (fun hn a ha => ⟨(hA hn a ha).1, Nat.lt_of_lt_of_le (hA hn a ha).2 hal.size⟩))
  have hb := body_len hd
  have hn1 : (Value.slice p M cap).ownBlock ≠ some w.heap.size := fun he => by have := (ho.block _ he).2; omega
  obtain ⟨E, hE⟩ : ∃ E, E = d.cells (.slice q N qc) := ⟨_, rfl⟩
  have hEl : E.length = 37 := by rw [hE]; simp [Sd.cells, hd.tg]
  have hi47 : (Try.prog.info? 47).map (·.size) = some E.length := by rw [hEl]; exact size47
  have HT := hid (show ∀ W, Blk W w.heap.size E 47 → BytesAt W (.slice (some ⟨w.heap.size, 5, none⟩) 32 32) d.tag from fun W h => by rw [hE] at h; exact tag_bytes h hd.tg)
  rw [← hE] at hc hbx hal ⊢
  have hgw := hid ((Gro.refl w (.slice p M cap)).keep hal)
  have hr : (w.alloc (.cells E.toArray 47)).drew.rangeAt w.heap.size 0 E := hbx.drew.range
  have htl := hid hd.tg
  have hlo := hid (Nat.le_trans hbase hal.size)
  unfold Sd.bytes
  have HMM := hid hM
  have HBX := hid hbx
  generalize d.body = BO at *
  generalize d.tag = TG at *
  clear hE hC hA ho hN hd hM hbx hal
  go_enter Try.func52, Try.ntmps52
  go_upto_region 1 with (fail)
  generalize w.alloc (.cells E.toArray 47) = W at *
  refine wp_region_noPanic ?_
  refine wp_region_any (by kernel_rfl) ?_
  change wpAny _ _ _ _ _ _ _ (World.drew _)
  refine take_op (i := 0) (.slice p M cap) (by exact rfl) (by kernel_rfl) (by kernel_rfl) (by kernel_rfl) (fun _ _ _ h => h) (fun w => by go_simp) ?_
  simp only [Act.put, List.setIfInBounds_toArray, List.set_cons_zero, List.set_cons_succ]
  refine take_op (i := 3) (.pointer (some ⟨w.heap.size, 5, none⟩)) (by exact rfl) (by kernel_rfl) (by kernel_rfl) (by kernel_rfl) (fun _ _ _ h => h) (fun w => by go_simp) ?_
  simp only [Act.put, List.setIfInBounds_toArray, List.set_cons_zero, List.set_cons_succ]
  refine take_op (i := 4) (.slice (some ⟨w.heap.size, 5, none⟩) 32 32) (by exact rfl) (by kernel_rfl) (by kernel_rfl) (by kernel_rfl) (fun _ _ _ h => h) (fun w => by go_simp) ?_
  simp only [Act.put, List.setIfInBounds_toArray, List.set_cons_zero, List.set_cons_succ]
  refine wpAny_ready (rs := [1]) (by kernel_rfl) (by simp) ?_
  refine ready_load 47 w.heap.size 0 E _ (by exact rfl) (by go_simp) hr Try.underlying47 rfl hi47 ?_ AllReady.nil
  simp only [Act.put, List.setIfInBounds_toArray, List.set_cons_zero, List.set_cons_succ]
  refine wpAny_ready (rs := [2]) (by kernel_rfl) (by simp) ?_
  refine ready_call 55 _ _ #[.slice p M cap, .agg E.toArray] (by exact rfl) (by go_simp) (by go_simp) ?_ AllReady.nil
  refine Calls.mono hc.out ?_
  rintro e w2 ⟨p2, N2, c2, hN2, rfl, ho2, hg2⟩
  refine ⟨_, rfl, ?_⟩
  simp only [Act.put, List.setIfInBounds_toArray, List.set_cons_zero, List.set_cons_succ]
  have hbx2 := hg2.blk HBX.out.drew hn1
  have hT2 := HT.out w2 hbx2
  have hlo2 : base ≤ w2.heap.size := Nat.le_trans hlo.out hg2.size
  have hNN : (xs ++ BO).length + TG.length = N2 + 32 := by rw [← hN2, htl.out]
  have hb2 : N2 + 32 ≤ 1099511627776 := by rw [hN2, List.length_append, ← HMM.out]; omega
  have hne : TG ≠ [] := by intro h; have := htl.out; rw [h] at this; simp at this
  have HG2 := hid (hgw.out.drew.trans hg2)
  have HN2 := hid hN2
  clear hN2 hg2
  refine wpAny_ready (rs := [5]) (by kernel_rfl) (by simp) ?_
  refine ready_append base (.slice p2 N2 c2) (.slice (some ⟨w.heap.size, 5, none⟩) 32 32) (xs ++ BO) TG (N2 + 32) hne hNN (by exact rfl) (by go_simp) (by go_simp) ho2 hT2 hb2 hlo2 ?_ AllReady.nil
  intro p3 c3 w3 ho3 hg3
  simp only [Act.put, List.setIfInBounds_toArray, List.set_cons_zero, List.set_cons_succ]
  refine take_op (i := 6) (.slice p3 (N2 + 32) c3) (by exact rfl) (by kernel_rfl) (by kernel_rfl) (by kernel_rfl) (fun _ _ _ h => h) (fun w => by go_simp) ?_
  simp only [Act.put, List.setIfInBounds_toArray, List.set_cons_zero, List.set_cons_succ]
  refine wpAny_done (by kernel_rfl) (NoPanic.normal ?_) _
  have HG3 := hid (HG2.out.trans hg3)
  have HO3 := hid ho3
  clear ho2 hT2 ho3 hg3 HG2
  go_wp2_with fail
  go_ret
  exact ⟨p3, N2 + 32, c3, by rw [HN2.out]; simp [htl.out]; omega, rfl, by simpa using HO3.out, HG3.out⟩
/-- What Sealed answers. -/
def sldL (d : Sd) : List Nat := if d.ok then d.bytes else []
def sldE (d : Sd) : Int := if d.ok then 0 else 4
set_option maxRecDepth 100000 in
set_option maxHeartbeats 4000000 in
theorem sealed20 (d : Sd) (hm : d.m < 18446744073709551616) (ht : d.tag.length = 32) (q : Option Addr) (N qc : Nat) (hN : N = d.cs.length) (hNb : N < 1000000000) (w : World) (hC : CmdsAt w (.slice q N qc) d.cs) (hq : 0 < N → ∀ a, q = some a → a.block < w.heap.size) :
    Calls Try.prog 20 #[.agg (d.cells (.slice q N qc)).toArray] w fun e w' => OutE w w.heap.size (sldL d) (sldE d) e w' := by
  have hal : Below w.heap.size w (w.alloc (.cells (d.cells (.slice q N qc)).toArray 47)) := (Below.refl _ _).alloc (Nat.le_refl _) _
  have hbx := Blk.new w (d.cells (.slice q N qc)) 47
  have h51 := hid (sealedFormed51 d hm q N qc (w.alloc (.cells (d.cells (.slice q N qc)).toArray 47)) hN (hC.below hal) hNb)
  have h52 := hid (show d.ok = true → ∀ W, Below w.heap.size w W → Calls Try.prog 52 #[.slice none 0 0, .agg (d.cells (.slice q N qc)).toArray] W fun e w' => OutG W (.slice none 0 0) w.heap.size d.bytes e w' from fun hok W hW => by
    have h9 := appendSealed52 d (Sd.nn hok ht) q N qc hN [] w.heap.size none 0 0 W rfl (OwnB.nil _ _) hW.size (by omega) (hC.below hW) (fun hn a ha => ⟨by simp [Value.ownBlock], Nat.lt_of_lt_of_le (hq hn a ha) hW.size⟩)
    rw [List.nil_append] at h9
    exact h9)
  have HL := hid (show ∀ b, b = d.ok → sldL d = (if b then d.bytes else []) ∧ sldE d = (if b then 0 else 4) from fun b hb => by subst hb; exact ⟨rfl, rfl⟩)
  obtain ⟨E, hE⟩ : ∃ E, E = d.cells (.slice q N qc) := ⟨_, rfl⟩
  have hEl : E.length = 37 := by rw [hE]; simp [Sd.cells, ht]
  have hi47 : (Try.prog.info? 47).map (·.size) = some E.length := by rw [hEl]; exact size47
  rw [← hE] at h51 h52 hbx hal ⊢
  obtain ⟨ok, hok⟩ : ∃ ok, ok = d.ok := ⟨_, rfl⟩
  rw [← hok] at h51 h52
  obtain ⟨l1, l2⟩ := HL.out ok hok
  rw [l1, l2]
  have HAL := hid hal
  have HBX := hid hbx
  have hr := hbx.range
  generalize d.bytes = BB at *
  clear hE hC hq hN hal hbx HL l1 l2 hok
  rcases ok with _ | _
  · go_enter Try.func20, Try.ntmps20
    go_wp2_with (first
      | ((with_reducible refine wpL_load 47 w.heap.size 0 E _ ?_ hr Try.underlying47 ?_ hi47 ?_); (rfl); (rfl); (simp only [Act.put, List.setIfInBounds_toArray, List.set_cons_zero, List.set_cons_succ]))
      | (go_at_call 51; refine Calls.mono h51.out ?_; rintro e w2 ⟨rfl, hb2⟩))
    go_ret2
    exact ⟨none, 0, 0, rfl, rfl, OwnB.nil _ _, HAL.out.trans (hb2.mono HAL.out.size)⟩
  · go_enter Try.func20, Try.ntmps20
    go_upto_region 1 with (fail)
    generalize w.alloc (.cells E.toArray 47) = W at *
    go_wp2_with (first
      | ((with_reducible refine wpL_load 47 w.heap.size 0 E _ ?_ hr Try.underlying47 ?_ hi47 ?_); (rfl); (rfl); (simp only [Act.put, List.setIfInBounds_toArray, List.set_cons_zero, List.set_cons_succ])))
    refine Calls.mono h51.out ?_
    rintro e w2 ⟨rfl, hb2⟩
    have hr2 := (HBX.out.below hb2 HBX.out.lt).range
    have hbe2 := HAL.out.trans (hb2.mono HAL.out.size)
    have h5 := hid (h52.out (by first | exact rfl | trivial) w2 hbe2)
    have HBE2 := hid hbe2
    clear hr h52 h51 hb2 hbe2
    go_wp2_with (first
      | ((with_reducible refine wpL_load 47 w.heap.size 0 E _ ?_ hr2 Try.underlying47 ?_ hi47 ?_); (rfl); (rfl); (simp only [Act.put, List.setIfInBounds_toArray, List.set_cons_zero, List.set_cons_succ])))
    refine Calls.mono h5.out ?_
    rintro e w3 ⟨p3, N3, c3, hN3, rfl, ho3, hg3⟩
    have HN3 := hid hN3
    have HB3 := hid (HBE2.out.trans (hg3.below (OwnB.nil w2 w.heap.size) HBE2.out.size))
    clear hN3 hg3
    go_wp2_with fail
    go_ret2
    exact ⟨p3, N3, c3, HN3.out, rfl, ho3, HB3.out⟩
end Go.Proofs.Ytpiflgbcbhnmpaa
/- What appendList answers of sealed commands. -/
namespace Go.Proofs.Ytpiflgbcbhnmpaa
open Go.RowKit
attribute [local go_sem ↓] zv47
/-- v is a slice of the sealed commands ds, all in blocks below base. -/
def SdsLo (w : World) (base : Nat) (v : Value) (ds : List Sd) : Prop :=
  ∃ (p : Option Addr) (cap : Nat) (ess : List (List Value)), v = .slice p ds.length cap ∧ ess.length = ds.length ∧ (∀ (i : Nat) (d : Sd) (es : List Value), ds[i]? = some d → ess[i]? = some es → es.length = 37 ∧ ∃ (q : Option Addr) (c : Nat), es = d.cells (.slice q d.cs.length c) ∧ CmdsAt w (.slice q d.cs.length c) d.cs ∧ (0 < d.cs.length → ∀ a, q = some a → a.block < base)) ∧ (ds ≠ [] → ∃ b o, p = some ⟨b, o, none⟩ ∧ b < base ∧ ∀ (i : Nat) (es : List Value), ess[i]? = some es → w.rangeAt b (o + i * 37) es)
theorem CmdsAt.low {w w' : World} {base : Nat} {q : Option Addr} {n c : Nat} {cs : List C6} (h : CmdsAt w (.slice q n c) cs) (hb : Below base w w') (hq : 0 < n → ∀ a, q = some a → a.block < base) : CmdsAt w' (.slice q n c) cs := by
  obtain ⟨p', c', he, h⟩ := h
  simp at he
  obtain ⟨rfl, rfl, rfl⟩ := he
  refine ⟨q, c, rfl, fun hne => ?_⟩
  obtain ⟨b, o, rfl, hc⟩ := h hne
  refine ⟨b, o, rfl, fun i c hi j u hu => ?_⟩
  rw [hb.cell (p := ⟨b, o + i * 6 + j, none⟩) (show b < base from hq (List.length_pos_iff.2 hne) ⟨b, o, none⟩ rfl)]
  exact hc i c hi j u hu
theorem SdsLo.below {w w' : World} {base : Nat} {v : Value} {ds : List Sd} (h : SdsLo w base v ds) (hb : Below base w w') : SdsLo w' base v ds := by
  obtain ⟨p, cap, ess, rfl, h1, h2, h3⟩ := h
  refine ⟨p, cap, ess, rfl, h1, fun i d es hd he => ?_, fun hn => ?_⟩
  · obtain ⟨a1, q, c, a2, a3, a4⟩ := h2 i d es hd he
    exact ⟨a1, q, c, a2, a3.low hb a4, a4⟩
  · obtain ⟨b, o, rfl, hlt, hc⟩ := h3 hn
    exact ⟨b, o, rfl, hlt, fun i es hi j u hu => by rw [hb.cell (p := ⟨b, o + i * 37 + j, none⟩) hlt]; exact hc i es hi j u hu⟩
def sdsB (ds : List Sd) : List Nat := sev ds.length ++ ds.flatMap Sd.bytes
theorem sd_len {d : Sd} (hd : d.Nn) : d.bytes.length ≤ 62000 := by
  have := body_len hd
  have := hd.tg
  simp only [Sd.bytes, List.length_append]
  omega
set_option maxRecDepth 100000 in
set_option maxHeartbeats 4000000 in
theorem appendList90 (ds : List Sd) (hds : ∀ d ∈ ds, d.Nn) (hdl : ds.length < 1000) (xs : List Nat) (base : Nat) (p : Option Addr) (M cap : Nat) (q : Option Addr) (N qc : Nat) (w : World) (hM : M = xs.length) (hN : N = ds.length) (ho : OwnB w base (.slice p M cap) xs) (hbase : base ≤ w.heap.size) (hsz : M < 10000000) (hC : SdsLo w base (.slice q N qc) ds) :
    Calls Try.prog 90 #[.slice p M cap, .slice q N qc, .func (.func 52) #[] #[]] w fun e w' => OutG w (.slice p M cap) base (xs ++ sdsB ds) e w' := by
  have hc1 := hid (appendInt85 N (by omega) xs base p M cap w hM ho hbase (by omega))
  have hcall := hid (show ∀ (d : Sd) (q : Option Addr) (c : Nat) (L : List Nat) (p1 : Option Addr) (N1 c1 : Nat) (W : World), d.Nn → (0 < d.cs.length → ∀ a, q = some a → a.block < base) → CmdsAt W (.slice q d.cs.length c) d.cs → N1 = L.length → OwnB W base (.slice p1 N1 c1) L → base ≤ W.heap.size → N1 < 100000000 → Calls Try.prog 52 #[.slice p1 N1 c1, .agg (d.cells (.slice q d.cs.length c)).toArray] W fun e w' => OutG W (.slice p1 N1 c1) base (L ++ d.bytes) e w' ∧ d.bytes.length ≤ 62000 from fun d q c L p1 N1 c1 W hn hq hcm h1 h2 h3 h4 =>
    (appendSealed52 d hn q d.cs.length c rfl L base p1 N1 c1 W h1 h2 h3 h4 hcm (fun hn' a ha => ⟨fun he => by have := (h2.block _ he).1; have := hq hn' a ha; omega, Nat.lt_of_lt_of_le (hq hn' a ha) h3⟩)).mono fun _ _ h8 => ⟨h8, sd_len hn⟩)
  have HN := hid hN
  have HDS := hid hds
  have HC := hid hC
  have HMM := hid hM
  have HOW := hid ho
  have hN1000 : N < 1000 := by omega
  have HB := hid hbase
  clear hN hC hM ho hds hdl
  obtain ⟨v0, hv0⟩ : ∃ v0, v0 = Value.slice p M cap := ⟨_, rfl⟩
  have HV0 := hid hv0
  clear hv0
  go_enter Try.func90, Try.ntmps90
  go_wp2_with fail
  refine Calls.mono hc1.out ?_
  rintro e w1 ⟨p1, N1, c1, hN1, rfl, ho1, hg1⟩
  have hl10 := sev_len10 (n := N) (by omega)
  have hb1 : N1 ≤ M + 10 := by rw [hN1, List.length_append, ← HMM.out]; omega
  have HN1 := hid hN1
  have HO1 := hid ho1
  have HG1 := hid hg1
  clear hN1 ho1 hg1 hc1 hl10
  go_wp2_with fail
  go_loopw [0, 15] (fun v iv wr => ∃ (i : Nat) (p : Option Addr) (K c : Nat) (L : List Nat), v = .slice p K c ∧ iv = .int .i64 (i : Nat) ∧ i ≤ N ∧ K ≤ M + 10 + 62000 * i ∧ Hid (K = L.length) ∧ Hid (xs ++ sdsB ds = L ++ (ds.drop i).flatMap Sd.bytes) ∧ Hid (OwnB wr base (.slice p K c) L) ∧ Hid (Gro w v0 wr (.slice p K c))) (fun _ iv _ => N - natOf iv)
  case atStart => exact ⟨0, p1, N1, c1, xs ++ sev N, rfl, rfl, by omega, by omega, HN1, by show _ = _; rw [List.drop_zero, List.append_assoc]; unfold sdsB; rw [← HN.out], HO1, by rw [HV0.out]; exact HG1.out⟩
  case round =>
    clear HN1 HO1 HG1 hb1
    obtain ⟨i, p2, K, c2, L, rfl, rfl, hi, hK, hKL, hE, hO, hG⟩ := hrel
    have w1' : IntKind.i64.wrap ((i : Int) + 1) = (i : Int) + 1 := by rw [IntKind.wrap_i64]; omega
    by_cases hlt : i < N
    · have hlb : i < ds.length := by have := HN.out; omega
      obtain ⟨d, hdi⟩ : ∃ d, ds[i]? = some d := ⟨_, List.getElem?_eq_getElem hlb⟩
      have hGv : Gro w (.slice p M cap) wr (.slice p2 K c2) := by rw [← HV0.out]; exact hG.out
      have hbeW := hGv.below HOW.out HB.out
      obtain ⟨q', qc', ess, he, hel, hmem, hrow⟩ := HC.out.below hbeW
      simp at he
      obtain ⟨rfl, hNc, rfl⟩ := he
      clear hNc
      obtain ⟨b, o, rfl, hblt, hrg⟩ := hrow (by rintro rfl; simp at hlb)
      obtain ⟨E, hEi⟩ : ∃ E, ess[i]? = some E := ⟨_, List.getElem?_eq_getElem (by omega)⟩
      obtain ⟨hEl, q3, c3, hEd, hCm, hq3⟩ := hmem i d E hdi hEi
      have hr := hrg i E hEi
      have hcn := hid (HDS.out d (List.mem_of_getElem? hdi))
      have HE2 : Hid (xs ++ sdsB ds = (L ++ d.bytes) ++ (ds.drop (i + 1)).flatMap Sd.bytes) := by
        show _ = _
        rw [hE.out, List.drop_eq_getElem_cons hlb, List.flatMap_cons, (List.getElem?_eq_some_iff.1 hdi).2, List.append_assoc]
      have e2 : (i : Int) < (N : Int) := by omega
      have e3 : (0 : Int) ≤ (i : Int) := by omega
      have hlo := hid (show base ≤ wr.heap.size from Nat.le_trans HB.out hGv.size)
      have hal : Below wr.heap.size wr (wr.alloc (.cells E.toArray 47)) := (Below.refl _ _).alloc (Nat.le_refl _) _
      have CL := hid (show Calls Try.prog 52 #[.slice p2 K c2, .agg E.toArray] (wr.alloc (.cells E.toArray 47)) fun e w' => OutG (wr.alloc (.cells E.toArray 47)) (.slice p2 K c2) base (L ++ d.bytes) e w' ∧ d.bytes.length ≤ 62000 from by
        have h9 := hcall.out d q3 c3 L p2 K c2 (wr.alloc (.cells E.toArray 47)) hcn.out hq3 (hCm.below hal) hKL.out (hO.out.below hal) (Nat.le_trans hlo.out hal.size) (by omega)
        rw [← hEd] at h9
        exact h9)
      have HGA := hid (hG.out.alloc (.cells E.toArray 47))
      have hi47 : (Try.prog.info? 47).map (·.size) = some E.length := by rw [hEl]; exact size47
      have hzl : z47.length = E.length := by rw [hEl]; simp [z47, zB_length]
      have honeE : Hid (∀ v ∈ E, v.oneCell' = true) := by
        rw [hEd]; intro v hv
        simp only [Sd.cells, List.mem_cons] at hv
        rcases hv with rfl | rfl | rfl | rfl | rfl | hv
        · rfl
        · rfl
        · rfl
        · rfl
        · rfl
        · exact mapBy_one _ v hv
      have hrn := (Blk.new wr E 47).range
      generalize d.bytes = cb at *
      clear hrg hrow hdi hE hGv hcn hO hG hlo hbeW hmem hel hEi hEd hCm hq3 hal hblt
      go_wp2_with (first
        | ((with_reducible refine wpL_load 47 b (o + i * 37) E _ ?_ hr Try.underlying47 ?_ hi47 ?_); (rfl); (rfl); (simp only [Act.put, List.setIfInBounds_toArray, List.set_cons_zero, List.set_cons_succ]))
        | ((with_reducible refine wpL_new 47 z47 E zv47 hzl ?_ ?_ hi47 honeE.out ?_); (rfl); (rfl); (simp only [Act.put, List.setIfInBounds_toArray, List.set_cons_zero, List.set_cons_succ]))
        | ((with_reducible refine wpL_load 47 wr.heap.size 0 E _ ?_ hrn Try.underlying47 ?_ hi47 ?_); (rfl); (rfl); (simp only [Act.put, List.setIfInBounds_toArray, List.set_cons_zero, List.set_cons_succ]))
        | (go_at_call 52; refine Calls.mono CL.out ?_; rintro e w5 ⟨⟨p5, N5, c5, hN5, rfl, ho5, hg5⟩, hcb⟩; have hK5 : N5 ≤ M + 10 + 62000 * (i + 1) := (by rw [hN5, List.length_append, ← hKL.out]; omega); have HN5 := hid hN5; have HG5 := hid (HGA.out.trans hg5); clear hN5 hg5 hcb HGA))
      go_roundw
      case rel => exact ⟨i + 1, p5, N5, c5, L ++ cb, rfl, by go_num, by omega, hK5, HN5, HE2, ho5, HG5⟩
      case measure => simp [natOf]; omega
    · have e2 : ¬ (i : Int) < (N : Int) := by omega
      have HE2 : Hid (xs ++ sdsB ds = L) := by
        show _ = _
        rw [hE.out, List.drop_eq_nil_of_le (by have := HN.out; omega)]; simp
      have HGF := hid (show Gro w (.slice p M cap) wr (.slice p2 K c2) by rw [← HV0.out]; exact hG.out)
      clear hE hG hcall
      go_wp2_with fail
      go_ret
      rw [HE2.out]
      exact ⟨p2, K, c2, hKL.out, rfl, hO.out, HGF.out⟩
end Go.Proofs.Ytpiflgbcbhnmpaa
