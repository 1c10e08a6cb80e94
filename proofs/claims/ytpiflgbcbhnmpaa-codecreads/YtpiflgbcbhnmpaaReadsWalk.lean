/- The walk of the law CodecReads. -/
import Derived.Test.YtpiflgbcbhnmpaaAwake
import Derived.Test.YtpiflgbcbhnmpaaRfr
import Derived.Test.YtpiflgbcbhnmpaaRfp
import Derived.Test.YtpiflgbcbhnmpaaSameL
import Derived.Test.YtpiflgbcbhnmpaaEqlR
namespace Go.Proofs.Ytpiflgbcbhnmpaa
open Go.RowKit
attribute [local go_sem ↓] zv47 zv39 zv41
theorem eqlGuard_R (w : World) (x y : Operand) (a b : Array Value) : (eqGuard .eql 41 x y (.agg a) (.agg b)).run Try.prog w = .ok () w := by
  simp [eqGuard, Sem.run_bind, go_sem]
attribute [local go_sem] eqlGuard_R
theorem run_eql_R (w : World) (r : Rs) (hl : r.la.length = 32) (ht : r.tg.length = 32) : (binOp .eql 41 (.agg r.cells.toArray) (.agg r.cells.toArray)).run Try.prog w = .ok (.bool true) w := by
  simp only [binOp, Op.equal, Op.maxDepth, Sem.run_bind, eq_res w 9997 r hl ht, Result.andThen_ok, Sem.run_pure]
theorem wh66_fit (bs : List Nat) : (wh66 bs).tag.length = 32 ∧ (wh66 bs).cs.length < 1000000000 := by
  unfold wh66
  split
  · exact ⟨pSeal_tag _, (pSeal_m _).2⟩
  · exact ⟨by simp [sd0], by simp [sd0]⟩
theorem pBlk_ds (s : S2) : (pBlk s).1.ds.length < 1000000000 := by
  unfold pBlk pBlk0
  obtain ⟨t, s1, ht⟩ : ∃ a b, pN 59 s = (a, b) := ⟨_, _, rfl⟩
  obtain ⟨pa, s2, hpa⟩ : ∃ a b, pD s1 = (a, b) := ⟨_, _, rfl⟩
  obtain ⟨pb, s3, hpb⟩ : ∃ a b, pD s2 = (a, b) := ⟨_, _, rfl⟩
  obtain ⟨pc, s4, hpc⟩ : ∃ a b, pD s3 = (a, b) := ⟨_, _, rfl⟩
  simp only [ht, hpa, hpb, hpc]
  unfold pList
  rw [pMany_length]
  have := pN_le 4 s4
  omega
theorem wh70_fit (bs : List Nat) : BkFit (wh70 bs) ∧ (wh70 bs).ds.length < 1000000000 := by
  unfold wh70
  split
  · exact ⟨pBlk_bk _, pBlk_ds _⟩
  · exact ⟨⟨by simp [bk0], by simp [bk0], by simp [bk0], fun d hd => by simp [bk0] at hd⟩, by simp [bk0]⟩
theorem wh73_fit (bs : List Nat) : (wh73 bs).la.length = 32 ∧ (wh73 bs).tg.length = 32 := by
  unfold wh73
  split
  · unfold pRes
    exact ⟨pD_32 _, pD_32 _⟩
  · exact ⟨by simp [rs0], by simp [rs0]⟩
theorem wh77_fit (bs : List Nat) : (∀ k ∈ wh77 bs, BkFit k ∧ k.ds.length < 1000000000) ∧ (wh77 bs).length < 1000000000 := by
  unfold wh77
  split
  · refine ⟨fun k hk => ?_, ?_⟩
    · obtain ⟨s', rfl⟩ := pMany_mem _ _ _ k hk
      exact ⟨pBlk_bk _, pBlk_ds _⟩
    · unfold pRep pList
      rw [pMany_length]
      have := pN_le 60 (bs, false)
      omega
  · exact ⟨fun k hk => by simp at hk, by simp⟩
def GotS (w : World) (d : Sd) (E : Int) (e : Ending) (w' : World) : Prop := ∃ (q : Option Addr) (c : Nat) (es : List Value), e = .returned (.tuple #[.agg es.toArray, .int .i64 E]) ∧ es = d.cells (.slice q d.cs.length c) ∧ es.length = 37 ∧ (∀ v ∈ es, v.oneCell' = true) ∧ CmdsAt w' (.slice q d.cs.length c) d.cs ∧ Below w.heap.size w w'
theorem gotS {w : World} {d : Sd} {E : Int} {e : Ending} {w' : World} (h : WhSd w d E e w') : GotS w d E e w' := by
  obtain ⟨es, he, ⟨cv, hes, ho⟩, hl, h1, hb⟩ := h
  obtain ⟨q, c, rfl, _⟩ := ho.lo
  exact ⟨q, c, es, he, hes, hl, h1, ho.at, hb⟩
def GotB (w : World) (d : Bk) (E : Int) (e : Ending) (w' : World) : Prop := ∃ (q : Option Addr) (c : Nat) (es : List Value), e = .returned (.tuple #[.agg es.toArray, .int .i64 E]) ∧ es = d.cells (.slice q d.ds.length c) ∧ es.length = 98 ∧ (∀ v ∈ es, v.oneCell' = true) ∧ SdsAt w' (.slice q d.ds.length c) d.ds ∧ Below w.heap.size w w'
theorem gotB {w : World} {d : Bk} {E : Int} {e : Ending} {w' : World} (h : WhBk w d E e w') : GotB w d E e w' := by
  obtain ⟨es, he, ⟨cv, hes, ho⟩, hl, h1, hb⟩ := h
  have hS' := ho.at
  obtain ⟨q, c, ess, rfl, _⟩ := id hS'
  exact ⟨q, c, es, he, hes, hl, h1, hS', hb⟩
set_option maxRecDepth 100000 in
theorem reads_mid (p : Option Addr) (M cap : Nat) (w : World) (hm : 20000 < M) (hm2 : M ≤ 262144) :
    Calls Try.prog 5 #[.slice p M cap] w fun e w' => e = .returned (.bool true) ∧ Below w.heap.size w w' := by
  have haw : Hid (∀ W, Calls Try.prog 9 #[] W fun e w' => e = .returned (.bool true) ∧ Below W.heap.size W w') := fun W => awake_any W
  have hm' : (20000 : Int) < (M : Int) := by omega
  have hm2' : (M : Int) ≤ 262144 := by omega
  go_enter Try.func5, Try.ntmps5
  go_wp2_with fail
  refine (haw.out w).mono ?_
  rintro e w1 ⟨rfl, hb1⟩
  go_wp2_with fail
  refine (haw.out w1).mono ?_
  rintro e w2 ⟨rfl, hb2⟩
  go_wp2
  go_ret
  exact ⟨rfl, hb1.trans (hb2.mono hb1.size)⟩
set_option maxRecDepth 100000 in
set_option maxHeartbeats 8000000 in
theorem reads_walk (bs : List Nat) (hbs : ∀ x ∈ bs, x < 256) (p : Option Addr) (M cap : Nat) (w : World) (hM : M = bs.length) (hB : BytesAt w (.slice p M cap) bs) (hm : M ≤ 20000 ∨ 262144 < M) :
    Calls Try.prog 5 #[.slice p M cap] w fun e w' => e = .returned (.bool true) ∧ Below w.heap.size w w' := by
  have haw : Hid (Calls Try.prog 9 #[] w fun e w' => e = .returned (.bool true) ∧ Below w.heap.size w w') := awake_any w
  obtain ⟨d1, hd1⟩ : ∃ d, d = wh66 bs := ⟨_, rfl⟩
  obtain ⟨d2, hd2⟩ : ∃ d, d = wh70 bs := ⟨_, rfl⟩
  obtain ⟨d3, hd3⟩ : ∃ d, d = wh73 bs := ⟨_, rfl⟩
  obtain ⟨d4, hd4⟩ : ∃ d, d = wh77 bs := ⟨_, rfl⟩
  obtain ⟨E1, hE1⟩ : ∃ d, d = whE bs.length (pSeal (bs, false)).2 := ⟨_, rfl⟩
  obtain ⟨E2, hE2⟩ : ∃ d, d = whE bs.length (pBlk (bs, false)).2 := ⟨_, rfl⟩
  obtain ⟨E3, hE3⟩ : ∃ d, d = whE bs.length (pRes (bs, false)).2 := ⟨_, rfl⟩
  obtain ⟨E4, hE4⟩ : ∃ d, d = whE bs.length (pRep (bs, false)).2 := ⟨_, rfl⟩
  have c32 := hid (show ∀ W, Below w.heap.size w W → Calls Try.prog 32 #[.slice p M cap] W fun e w' => GotS W d1 E1 e w' from fun W h => by rw [hd1, hE1]; exact (read32f bs hbs p M cap W hM (hB.below h)).mono fun _ _ h => gotS h)
  have c33 := hid (show ∀ W, Below w.heap.size w W → Calls Try.prog 33 #[.slice p M cap] W fun e w' => GotS W d1 E1 e w' from fun W h => by rw [hd1, hE1]; exact (read33 bs hbs p M cap W hM (hB.below h)).mono fun _ _ h => gotS h)
  have c34 := hid (show ∀ W, Below w.heap.size w W → Calls Try.prog 34 #[.slice p M cap] W fun e w' => GotB W d2 E2 e w' from fun W h => by rw [hd2, hE2]; exact (read34f bs hbs p M cap W hM (hB.below h)).mono fun _ _ h => gotB h)
  have c35 := hid (show ∀ W, Below w.heap.size w W → Calls Try.prog 35 #[.slice p M cap] W fun e w' => GotB W d2 E2 e w' from fun W h => by rw [hd2, hE2]; exact (read35 bs hbs p M cap W hM (hB.below h)).mono fun _ _ h => gotB h)
  have c36 := hid (show ∀ W, Below w.heap.size w W → Calls Try.prog 36 #[.slice p M cap] W fun e w' => WhRs W d3 E3 e w' from fun W h => by rw [hd3, hE3]; exact read36f bs hbs p M cap W hM (hB.below h))
  have c37 := hid (show ∀ W, Below w.heap.size w W → Calls Try.prog 37 #[.slice p M cap] W fun e w' => WhRs W d3 E3 e w' from fun W h => by rw [hd3, hE3]; exact read37 bs hbs p M cap W hM (hB.below h))
  have c38 := hid (show ∀ W, Below w.heap.size w W → Calls Try.prog 38 #[.slice p M cap] W fun e w' => WhRp W d4 E4 e w' from fun W h => by rw [hd4, hE4]; exact read38f bs hbs p M cap W hM (hB.below h))
  have c39 := hid (show ∀ W, Below w.heap.size w W → Calls Try.prog 39 #[.slice p M cap] W fun e w' => WhRp W d4 E4 e w' from fun W h => by rw [hd4, hE4]; exact read39 bs hbs p M cap W hM (hB.below h))
  have h40 := hid (show ∀ (q r : Option Addr) (c c' : Nat) (W : World), CmdsAt W (.slice q d1.cs.length c) d1.cs → CmdsAt W (.slice r d1.cs.length c') d1.cs → Calls Try.prog 40 #[.agg (d1.cells (.slice q d1.cs.length c)).toArray, .agg (d1.cells (.slice r d1.cs.length c')).toArray] W fun e w' => e = .returned (.bool true) ∧ Below W.heap.size W w' from fun q r c c' W h h' => by
    have hf := wh66_fit bs
    rw [← hd1] at hf
    exact sameSealed40 d1 hf.1 q r _ c c' W rfl h h' hf.2)
  have h41 := hid (show ∀ (q r : Option Addr) (c c' : Nat) (W : World), SdsAt W (.slice q d2.ds.length c) d2.ds → SdsAt W (.slice r d2.ds.length c') d2.ds → Calls Try.prog 41 #[.agg (d2.cells (.slice q d2.ds.length c)).toArray, .agg (d2.cells (.slice r d2.ds.length c')).toArray] W fun e w' => e = .returned (.bool true) ∧ Below W.heap.size W w' from fun q r c c' W h h' => by
    have hf := wh70_fit bs
    rw [← hd2] at hf
    exact sameBlock41 d2 hf.1 q r _ c c' W rfl h h' hf.2)
  have h42 := hid (show ∀ (q r : Option Addr) (N c c' : Nat) (W : World), N = d4.length → BksAt W (.slice q N c) d4 → BksAt W (.slice r N c') d4 → Calls Try.prog 42 #[.slice q N c, .slice r N c'] W fun e w' => e = .returned (.bool true) ∧ Below W.heap.size W w' from fun q r N c c' W hN h h' => by
    have hf := wh77_fit bs
    rw [← hd4] at hf
    exact sameBlocks42 d4 hf.1 q r N c c' W hN h h' (by omega))
  have h43 := hid (show ∀ W, (binOp .eql 41 (.agg d3.cells.toArray) (.agg d3.cells.toArray)).run Try.prog W = .ok (.bool true) W from fun W => by
    have hf := wh73_fit bs
    rw [← hd3] at hf
    exact run_eql_R W d3 hf.1 hf.2)
  have hcs : Hid ((M : Int) ≤ 20000 ∨ ((20000 : Int) < (M : Int) ∧ (262144 : Int) < (M : Int))) := by rcases hm with h | h; exact hid (Or.inl (by omega)); exact hid (Or.inr ⟨by omega, by omega⟩)
  unfold GotS at c32 c33
  unfold GotB at c34 c35
  unfold WhRs at c36 c37
  unfold WhRp at c38 c39
  clear hB hbs hM hm hd1 hd2 hd3 hd4 hE1 hE2 hE3 hE4
  go_enter Try.func5, Try.ntmps5
  go_wp2_with fail
  refine haw.out.mono ?_
  rintro e w0 ⟨rfl, hb0⟩
  have be0 := hid hb0
  clear haw hb0
  rcases hcs.out with hm' | ⟨hm', hm2'⟩
  all_goals
    go_wp2_with fail
    refine Calls.mono (c32.out w0 be0.out) ?_
    rintro e v1 ⟨q1, k1, es1, rfl, hes1, hel1, hon1, hat1, hb1⟩
    have bx1 := be0.out.trans (hb1.mono be0.out.size)
    have hi1 : (Try.prog.info? 47).map (·.size) = some es1.length := by rw [hel1]; exact size47
    have hzl1 : z47.length = es1.length := by rw [hel1]; exact by simp [z47, zB_length]
    have one1 := hid hon1
    have al1 : Below v1.heap.size v1 (v1.alloc (.cells es1.toArray 47)) := (Below.refl _ _).alloc (Nat.le_refl _) _
    have be1 := hid (bx1.trans (al1.mono bx1.size))
    have st1 := hb1.trans (al1.mono hb1.size)
    have B1 := hid (Blk.new v1 es1 47)
    have F1 := hid (fun W (hW : Below (v1.alloc (.cells es1.toArray 47)).heap.size (v1.alloc (.cells es1.toArray 47)) W) => B1.out.below hW B1.out.lt)
    have A1 := hid (fun W (hW : Below (v1.alloc (.cells es1.toArray 47)).heap.size (v1.alloc (.cells es1.toArray 47)) W) => hat1.below (al1.trans (hW.mono al1.size)))
    have HE1 := hid (fun (_ : Nat) => hes1)
    clear bx1 al1 st1 B1 hb1 hon1 hes1 be0 c32 hat1
    go_upto_region 4 with (first
      | ((with_reducible refine wpL_new 47 z47 es1 zv47 hzl1 ?_ ?_ hi1 one1.out ?_); (rfl); (rfl); (simp only [Act.put, List.setIfInBounds_toArray, List.set_cons_zero, List.set_cons_succ])))
    obtain ⟨b1, hbb1⟩ : ∃ b, b = v1.heap.size := ⟨_, rfl⟩
    rw [← hbb1] at F1
    simp only [← hbb1]
    generalize v1.alloc (.cells es1.toArray 47) = w1 at *
    clear hbb1 hzl1 hel1 one1
    go_wp2_with fail
    refine Calls.mono (c33.out w1 be1.out) ?_
    rintro e v2 ⟨q2, k2, es2, rfl, hes2, hel2, hon2, hat2, hb2⟩
    have bx2 := be1.out.trans (hb2.mono be1.out.size)
    have hi2 : (Try.prog.info? 47).map (·.size) = some es2.length := by rw [hel2]; exact size47
    have hzl2 : z47.length = es2.length := by rw [hel2]; exact by simp [z47, zB_length]
    have one2 := hid hon2
    have al2 : Below v2.heap.size v2 (v2.alloc (.cells es2.toArray 47)) := (Below.refl _ _).alloc (Nat.le_refl _) _
    have be2 := hid (bx2.trans (al2.mono bx2.size))
    have st2 := hb2.trans (al2.mono hb2.size)
    have B2 := hid (Blk.new v2 es2 47)
    have F1n := hid (fun W (hW : Below (v2.alloc (.cells es2.toArray 47)).heap.size (v2.alloc (.cells es2.toArray 47)) W) => F1.out W (st2.trans (hW.mono st2.size)))
    clear F1
    have F1 := F1n
    clear F1n
    have A1n := hid (fun W (hW : Below (v2.alloc (.cells es2.toArray 47)).heap.size (v2.alloc (.cells es2.toArray 47)) W) => A1.out W (st2.trans (hW.mono st2.size)))
    clear A1
    have A1 := A1n
    clear A1n
    have F2 := hid (fun W (hW : Below (v2.alloc (.cells es2.toArray 47)).heap.size (v2.alloc (.cells es2.toArray 47)) W) => B2.out.below hW B2.out.lt)
    have A2 := hid (fun W (hW : Below (v2.alloc (.cells es2.toArray 47)).heap.size (v2.alloc (.cells es2.toArray 47)) W) => hat2.below (al2.trans (hW.mono al2.size)))
    have HE2 := hid (fun (_ : Nat) => hes2)
    clear bx2 al2 st2 B2 hb2 hon2 hes2 be1 c33 hat2
    go_upto_region 5 with (first
      | ((with_reducible refine wpL_new 47 z47 es2 zv47 hzl2 ?_ ?_ hi2 one2.out ?_); (rfl); (rfl); (simp only [Act.put, List.setIfInBounds_toArray, List.set_cons_zero, List.set_cons_succ])))
    obtain ⟨b2, hbb2⟩ : ∃ b, b = v2.heap.size := ⟨_, rfl⟩
    rw [← hbb2] at F2
    simp only [← hbb2]
    generalize v2.alloc (.cells es2.toArray 47) = w2 at *
    clear hbb2 hzl2 hel2 one2
    go_wp2_with fail
    refine Calls.mono (c34.out w2 be2.out) ?_
    rintro e v3 ⟨q3, k3, es3, rfl, hes3, hel3, hon3, hat3, hb3⟩
    have bx3 := be2.out.trans (hb3.mono be2.out.size)
    have hi3 : (Try.prog.info? 39).map (·.size) = some es3.length := by rw [hel3]; exact size39
    have hzl3 : z39.length = es3.length := by rw [hel3]; exact bkL_length _ _ _ _ _ (zB_length 32) (zB_length 32) (zB_length 32)
    have one3 := hid hon3
    have al3 : Below v3.heap.size v3 (v3.alloc (.cells es3.toArray 39)) := (Below.refl _ _).alloc (Nat.le_refl _) _
    have be3 := hid (bx3.trans (al3.mono bx3.size))
    have st3 := hb3.trans (al3.mono hb3.size)
    have B3 := hid (Blk.new v3 es3 39)
    have F1n := hid (fun W (hW : Below (v3.alloc (.cells es3.toArray 39)).heap.size (v3.alloc (.cells es3.toArray 39)) W) => F1.out W (st3.trans (hW.mono st3.size)))
    clear F1
    have F1 := F1n
    clear F1n
    have A1n := hid (fun W (hW : Below (v3.alloc (.cells es3.toArray 39)).heap.size (v3.alloc (.cells es3.toArray 39)) W) => A1.out W (st3.trans (hW.mono st3.size)))
    clear A1
    have A1 := A1n
    clear A1n
    have F2n := hid (fun W (hW : Below (v3.alloc (.cells es3.toArray 39)).heap.size (v3.alloc (.cells es3.toArray 39)) W) => F2.out W (st3.trans (hW.mono st3.size)))
    clear F2
    have F2 := F2n
    clear F2n
    have A2n := hid (fun W (hW : Below (v3.alloc (.cells es3.toArray 39)).heap.size (v3.alloc (.cells es3.toArray 39)) W) => A2.out W (st3.trans (hW.mono st3.size)))
    clear A2
    have A2 := A2n
    clear A2n
    have F3 := hid (fun W (hW : Below (v3.alloc (.cells es3.toArray 39)).heap.size (v3.alloc (.cells es3.toArray 39)) W) => B3.out.below hW B3.out.lt)
    have A3 := hid (fun W (hW : Below (v3.alloc (.cells es3.toArray 39)).heap.size (v3.alloc (.cells es3.toArray 39)) W) => hat3.below (al3.trans (hW.mono al3.size)))
    have HE3 := hid (fun (_ : Nat) => hes3)
    clear bx3 al3 st3 B3 hb3 hon3 hes3 be2 c34 hat3
    go_upto_region 6 with (first
      | ((with_reducible refine wpL_new 39 z39 es3 zv39 hzl3 ?_ ?_ hi3 one3.out ?_); (rfl); (rfl); (simp only [Act.put, List.setIfInBounds_toArray, List.set_cons_zero, List.set_cons_succ])))
    obtain ⟨b3, hbb3⟩ : ∃ b, b = v3.heap.size := ⟨_, rfl⟩
    rw [← hbb3] at F3
    simp only [← hbb3]
    generalize v3.alloc (.cells es3.toArray 39) = w3 at *
    clear hbb3 hzl3 hel3 one3
    go_wp2_with fail
    refine Calls.mono (c35.out w3 be3.out) ?_
    rintro e v4 ⟨q4, k4, es4, rfl, hes4, hel4, hon4, hat4, hb4⟩
    have bx4 := be3.out.trans (hb4.mono be3.out.size)
    have hi4 : (Try.prog.info? 39).map (·.size) = some es4.length := by rw [hel4]; exact size39
    have hzl4 : z39.length = es4.length := by rw [hel4]; exact bkL_length _ _ _ _ _ (zB_length 32) (zB_length 32) (zB_length 32)
    have one4 := hid hon4
    have al4 : Below v4.heap.size v4 (v4.alloc (.cells es4.toArray 39)) := (Below.refl _ _).alloc (Nat.le_refl _) _
    have be4 := hid (bx4.trans (al4.mono bx4.size))
    have st4 := hb4.trans (al4.mono hb4.size)
    have B4 := hid (Blk.new v4 es4 39)
    have F1n := hid (fun W (hW : Below (v4.alloc (.cells es4.toArray 39)).heap.size (v4.alloc (.cells es4.toArray 39)) W) => F1.out W (st4.trans (hW.mono st4.size)))
    clear F1
    have F1 := F1n
    clear F1n
    have A1n := hid (fun W (hW : Below (v4.alloc (.cells es4.toArray 39)).heap.size (v4.alloc (.cells es4.toArray 39)) W) => A1.out W (st4.trans (hW.mono st4.size)))
    clear A1
    have A1 := A1n
    clear A1n
    have F2n := hid (fun W (hW : Below (v4.alloc (.cells es4.toArray 39)).heap.size (v4.alloc (.cells es4.toArray 39)) W) => F2.out W (st4.trans (hW.mono st4.size)))
    clear F2
    have F2 := F2n
    clear F2n
    have A2n := hid (fun W (hW : Below (v4.alloc (.cells es4.toArray 39)).heap.size (v4.alloc (.cells es4.toArray 39)) W) => A2.out W (st4.trans (hW.mono st4.size)))
    clear A2
    have A2 := A2n
    clear A2n
    have F3n := hid (fun W (hW : Below (v4.alloc (.cells es4.toArray 39)).heap.size (v4.alloc (.cells es4.toArray 39)) W) => F3.out W (st4.trans (hW.mono st4.size)))
    clear F3
    have F3 := F3n
    clear F3n
    have A3n := hid (fun W (hW : Below (v4.alloc (.cells es4.toArray 39)).heap.size (v4.alloc (.cells es4.toArray 39)) W) => A3.out W (st4.trans (hW.mono st4.size)))
    clear A3
    have A3 := A3n
    clear A3n
    have F4 := hid (fun W (hW : Below (v4.alloc (.cells es4.toArray 39)).heap.size (v4.alloc (.cells es4.toArray 39)) W) => B4.out.below hW B4.out.lt)
    have A4 := hid (fun W (hW : Below (v4.alloc (.cells es4.toArray 39)).heap.size (v4.alloc (.cells es4.toArray 39)) W) => hat4.below (al4.trans (hW.mono al4.size)))
    have HE4 := hid (fun (_ : Nat) => hes4)
    clear bx4 al4 st4 B4 hb4 hon4 hes4 be3 c35 hat4
    go_upto_region 7 with (first
      | ((with_reducible refine wpL_new 39 z39 es4 zv39 hzl4 ?_ ?_ hi4 one4.out ?_); (rfl); (rfl); (simp only [Act.put, List.setIfInBounds_toArray, List.set_cons_zero, List.set_cons_succ])))
    obtain ⟨b4, hbb4⟩ : ∃ b, b = v4.heap.size := ⟨_, rfl⟩
    rw [← hbb4] at F4
    simp only [← hbb4]
    generalize v4.alloc (.cells es4.toArray 39) = w4 at *
    clear hbb4 hzl4 hel4 one4
    go_wp2_with fail
    refine Calls.mono (c36.out w4 be4.out) ?_
    rintro e v5 ⟨es5, rfl, hes5, hel5, hon5, hb5⟩
    have bx5 := be4.out.trans (hb5.mono be4.out.size)
    have hi5 : (Try.prog.info? 41).map (·.size) = some es5.length := by rw [hel5]; exact size41
    have hzl5 : z41.length = es5.length := by rw [hel5]; exact rsC_length _ _ _ _ _ (zB_length 32) (zB_length 32)
    have one5 := hid hon5
    have al5 : Below v5.heap.size v5 (v5.alloc (.cells es5.toArray 41)) := (Below.refl _ _).alloc (Nat.le_refl _) _
    have be5 := hid (bx5.trans (al5.mono bx5.size))
    have st5 := hb5.trans (al5.mono hb5.size)
    have B5 := hid (Blk.new v5 es5 41)
    have F1n := hid (fun W (hW : Below (v5.alloc (.cells es5.toArray 41)).heap.size (v5.alloc (.cells es5.toArray 41)) W) => F1.out W (st5.trans (hW.mono st5.size)))
    clear F1
    have F1 := F1n
    clear F1n
    have A1n := hid (fun W (hW : Below (v5.alloc (.cells es5.toArray 41)).heap.size (v5.alloc (.cells es5.toArray 41)) W) => A1.out W (st5.trans (hW.mono st5.size)))
    clear A1
    have A1 := A1n
    clear A1n
    have F2n := hid (fun W (hW : Below (v5.alloc (.cells es5.toArray 41)).heap.size (v5.alloc (.cells es5.toArray 41)) W) => F2.out W (st5.trans (hW.mono st5.size)))
    clear F2
    have F2 := F2n
    clear F2n
    have A2n := hid (fun W (hW : Below (v5.alloc (.cells es5.toArray 41)).heap.size (v5.alloc (.cells es5.toArray 41)) W) => A2.out W (st5.trans (hW.mono st5.size)))
    clear A2
    have A2 := A2n
    clear A2n
    have F3n := hid (fun W (hW : Below (v5.alloc (.cells es5.toArray 41)).heap.size (v5.alloc (.cells es5.toArray 41)) W) => F3.out W (st5.trans (hW.mono st5.size)))
    clear F3
    have F3 := F3n
    clear F3n
    have A3n := hid (fun W (hW : Below (v5.alloc (.cells es5.toArray 41)).heap.size (v5.alloc (.cells es5.toArray 41)) W) => A3.out W (st5.trans (hW.mono st5.size)))
    clear A3
    have A3 := A3n
    clear A3n
    have F4n := hid (fun W (hW : Below (v5.alloc (.cells es5.toArray 41)).heap.size (v5.alloc (.cells es5.toArray 41)) W) => F4.out W (st5.trans (hW.mono st5.size)))
    clear F4
    have F4 := F4n
    clear F4n
    have A4n := hid (fun W (hW : Below (v5.alloc (.cells es5.toArray 41)).heap.size (v5.alloc (.cells es5.toArray 41)) W) => A4.out W (st5.trans (hW.mono st5.size)))
    clear A4
    have A4 := A4n
    clear A4n
    have F5 := hid (fun W (hW : Below (v5.alloc (.cells es5.toArray 41)).heap.size (v5.alloc (.cells es5.toArray 41)) W) => B5.out.below hW B5.out.lt)
    have HE5 := hid (fun (_ : Nat) => hes5)
    clear bx5 al5 st5 B5 hb5 hon5 hes5 be4 c36
    go_upto_region 8 with (first
      | ((with_reducible refine wpL_new 41 z41 es5 zv41 hzl5 ?_ ?_ hi5 one5.out ?_); (rfl); (rfl); (simp only [Act.put, List.setIfInBounds_toArray, List.set_cons_zero, List.set_cons_succ])))
    obtain ⟨b5, hbb5⟩ : ∃ b, b = v5.heap.size := ⟨_, rfl⟩
    rw [← hbb5] at F5
    simp only [← hbb5]
    generalize v5.alloc (.cells es5.toArray 41) = w5 at *
    clear hbb5 hzl5 hel5 one5
    go_wp2_with fail
    refine Calls.mono (c37.out w5 be5.out) ?_
    rintro e v6 ⟨es6, rfl, hes6, hel6, hon6, hb6⟩
    have bx6 := be5.out.trans (hb6.mono be5.out.size)
    have hi6 : (Try.prog.info? 41).map (·.size) = some es6.length := by rw [hel6]; exact size41
    have hzl6 : z41.length = es6.length := by rw [hel6]; exact rsC_length _ _ _ _ _ (zB_length 32) (zB_length 32)
    have one6 := hid hon6
    have al6 : Below v6.heap.size v6 (v6.alloc (.cells es6.toArray 41)) := (Below.refl _ _).alloc (Nat.le_refl _) _
    have be6 := hid (bx6.trans (al6.mono bx6.size))
    have st6 := hb6.trans (al6.mono hb6.size)
    have B6 := hid (Blk.new v6 es6 41)
    have F1n := hid (fun W (hW : Below (v6.alloc (.cells es6.toArray 41)).heap.size (v6.alloc (.cells es6.toArray 41)) W) => F1.out W (st6.trans (hW.mono st6.size)))
    clear F1
    have F1 := F1n
    clear F1n
    have A1n := hid (fun W (hW : Below (v6.alloc (.cells es6.toArray 41)).heap.size (v6.alloc (.cells es6.toArray 41)) W) => A1.out W (st6.trans (hW.mono st6.size)))
    clear A1
    have A1 := A1n
    clear A1n
    have F2n := hid (fun W (hW : Below (v6.alloc (.cells es6.toArray 41)).heap.size (v6.alloc (.cells es6.toArray 41)) W) => F2.out W (st6.trans (hW.mono st6.size)))
    clear F2
    have F2 := F2n
    clear F2n
    have A2n := hid (fun W (hW : Below (v6.alloc (.cells es6.toArray 41)).heap.size (v6.alloc (.cells es6.toArray 41)) W) => A2.out W (st6.trans (hW.mono st6.size)))
    clear A2
    have A2 := A2n
    clear A2n
    have F3n := hid (fun W (hW : Below (v6.alloc (.cells es6.toArray 41)).heap.size (v6.alloc (.cells es6.toArray 41)) W) => F3.out W (st6.trans (hW.mono st6.size)))
    clear F3
    have F3 := F3n
    clear F3n
    have A3n := hid (fun W (hW : Below (v6.alloc (.cells es6.toArray 41)).heap.size (v6.alloc (.cells es6.toArray 41)) W) => A3.out W (st6.trans (hW.mono st6.size)))
    clear A3
    have A3 := A3n
    clear A3n
    have F4n := hid (fun W (hW : Below (v6.alloc (.cells es6.toArray 41)).heap.size (v6.alloc (.cells es6.toArray 41)) W) => F4.out W (st6.trans (hW.mono st6.size)))
    clear F4
    have F4 := F4n
    clear F4n
    have A4n := hid (fun W (hW : Below (v6.alloc (.cells es6.toArray 41)).heap.size (v6.alloc (.cells es6.toArray 41)) W) => A4.out W (st6.trans (hW.mono st6.size)))
    clear A4
    have A4 := A4n
    clear A4n
    have F5n := hid (fun W (hW : Below (v6.alloc (.cells es6.toArray 41)).heap.size (v6.alloc (.cells es6.toArray 41)) W) => F5.out W (st6.trans (hW.mono st6.size)))
    clear F5
    have F5 := F5n
    clear F5n
    have F6 := hid (fun W (hW : Below (v6.alloc (.cells es6.toArray 41)).heap.size (v6.alloc (.cells es6.toArray 41)) W) => B6.out.below hW B6.out.lt)
    have HE6 := hid (fun (_ : Nat) => hes6)
    clear bx6 al6 st6 B6 hb6 hon6 hes6 be5 c37
    go_upto_region 9 with (first
      | ((with_reducible refine wpL_new 41 z41 es6 zv41 hzl6 ?_ ?_ hi6 one6.out ?_); (rfl); (rfl); (simp only [Act.put, List.setIfInBounds_toArray, List.set_cons_zero, List.set_cons_succ])))
    obtain ⟨b6, hbb6⟩ : ∃ b, b = v6.heap.size := ⟨_, rfl⟩
    rw [← hbb6] at F6
    simp only [← hbb6]
    generalize v6.alloc (.cells es6.toArray 41) = w6 at *
    clear hbb6 hzl6 hel6 one6
    go_wp2_with fail
    refine Calls.mono (c38.out w6 be6.out) ?_
    rintro e v7 ⟨q7, N7, k7, hN7, rfl, hat7, hb7⟩
    have be7 := hid (be6.out.trans (hb7.mono be6.out.size))
    have F1n := hid (fun W (hW : Below v7.heap.size v7 W) => F1.out W (hb7.trans (hW.mono hb7.size)))
    clear F1
    have F1 := F1n
    clear F1n
    have A1n := hid (fun W (hW : Below v7.heap.size v7 W) => A1.out W (hb7.trans (hW.mono hb7.size)))
    clear A1
    have A1 := A1n
    clear A1n
    have F2n := hid (fun W (hW : Below v7.heap.size v7 W) => F2.out W (hb7.trans (hW.mono hb7.size)))
    clear F2
    have F2 := F2n
    clear F2n
    have A2n := hid (fun W (hW : Below v7.heap.size v7 W) => A2.out W (hb7.trans (hW.mono hb7.size)))
    clear A2
    have A2 := A2n
    clear A2n
    have F3n := hid (fun W (hW : Below v7.heap.size v7 W) => F3.out W (hb7.trans (hW.mono hb7.size)))
    clear F3
    have F3 := F3n
    clear F3n
    have A3n := hid (fun W (hW : Below v7.heap.size v7 W) => A3.out W (hb7.trans (hW.mono hb7.size)))
    clear A3
    have A3 := A3n
    clear A3n
    have F4n := hid (fun W (hW : Below v7.heap.size v7 W) => F4.out W (hb7.trans (hW.mono hb7.size)))
    clear F4
    have F4 := F4n
    clear F4n
    have A4n := hid (fun W (hW : Below v7.heap.size v7 W) => A4.out W (hb7.trans (hW.mono hb7.size)))
    clear A4
    have A4 := A4n
    clear A4n
    have F5n := hid (fun W (hW : Below v7.heap.size v7 W) => F5.out W (hb7.trans (hW.mono hb7.size)))
    clear F5
    have F5 := F5n
    clear F5n
    have F6n := hid (fun W (hW : Below v7.heap.size v7 W) => F6.out W (hb7.trans (hW.mono hb7.size)))
    clear F6
    have F6 := F6n
    clear F6n
    have hbk7 := hat7.at
    have A7 := hid (fun W (hW : Below v7.heap.size v7 W) => hbk7.below hW)
    have HN7 := hid (fun (_ : Nat) => hN7)
    clear hat7 hbk7 hb7 hN7 be6 c38
    go_upto_region 10 with fail
    go_wp2_with fail
    refine Calls.mono (c39.out v7 be7.out) ?_
    rintro e v8 ⟨q8, N8, k8, hN8, rfl, hat8, hb8⟩
    have be8 := hid (be7.out.trans (hb8.mono be7.out.size))
    have F1n := hid (fun W (hW : Below v8.heap.size v8 W) => F1.out W (hb8.trans (hW.mono hb8.size)))
    clear F1
    have F1 := F1n
    clear F1n
    have A1n := hid (fun W (hW : Below v8.heap.size v8 W) => A1.out W (hb8.trans (hW.mono hb8.size)))
    clear A1
    have A1 := A1n
    clear A1n
    have F2n := hid (fun W (hW : Below v8.heap.size v8 W) => F2.out W (hb8.trans (hW.mono hb8.size)))
    clear F2
    have F2 := F2n
    clear F2n
    have A2n := hid (fun W (hW : Below v8.heap.size v8 W) => A2.out W (hb8.trans (hW.mono hb8.size)))
    clear A2
    have A2 := A2n
    clear A2n
    have F3n := hid (fun W (hW : Below v8.heap.size v8 W) => F3.out W (hb8.trans (hW.mono hb8.size)))
    clear F3
    have F3 := F3n
    clear F3n
    have A3n := hid (fun W (hW : Below v8.heap.size v8 W) => A3.out W (hb8.trans (hW.mono hb8.size)))
    clear A3
    have A3 := A3n
    clear A3n
    have F4n := hid (fun W (hW : Below v8.heap.size v8 W) => F4.out W (hb8.trans (hW.mono hb8.size)))
    clear F4
    have F4 := F4n
    clear F4n
    have A4n := hid (fun W (hW : Below v8.heap.size v8 W) => A4.out W (hb8.trans (hW.mono hb8.size)))
    clear A4
    have A4 := A4n
    clear A4n
    have F5n := hid (fun W (hW : Below v8.heap.size v8 W) => F5.out W (hb8.trans (hW.mono hb8.size)))
    clear F5
    have F5 := F5n
    clear F5n
    have F6n := hid (fun W (hW : Below v8.heap.size v8 W) => F6.out W (hb8.trans (hW.mono hb8.size)))
    clear F6
    have F6 := F6n
    clear F6n
    have A7n := hid (fun W (hW : Below v8.heap.size v8 W) => A7.out W (hb8.trans (hW.mono hb8.size)))
    clear A7
    have A7 := A7n
    clear A7n
    have hbk8 := hat8.at
    have A8 := hid (fun W (hW : Below v8.heap.size v8 W) => hbk8.below hW)
    have HN8 := hid (fun (_ : Nat) => hN8)
    clear hat8 hbk8 hb8 hN8 be7 c39
    go_upto_region 11 with fail
    have HNN : N7 = N8 := by rw [HN7.out 0, HN8.out 0]
    subst HNN
    have K40 := hid (fun W (hW : Below v8.heap.size v8 W) => show Calls Try.prog 40 #[.agg es1.toArray, .agg es2.toArray] W fun e w' => e = .returned (.bool true) ∧ Below W.heap.size W w' from by rw [HE1.out 0, HE2.out 0]; exact h40.out q1 q2 k1 k2 W (A1.out W hW) (A2.out W hW))
    have K41 := hid (fun W (hW : Below v8.heap.size v8 W) => show Calls Try.prog 41 #[.agg es3.toArray, .agg es4.toArray] W fun e w' => e = .returned (.bool true) ∧ Below W.heap.size W w' from by rw [HE3.out 0, HE4.out 0]; exact h41.out q3 q4 k3 k4 W (A3.out W hW) (A4.out W hW))
    have K42 := hid (fun W (hW : Below v8.heap.size v8 W) => h42.out q7 q8 N7 k7 k8 W (HN7.out 0) (A7.out W hW) (A8.out W hW))
    have K43 : ∀ W, (binOp .eql 41 (.agg es5.toArray) (.agg es6.toArray)).run Try.prog W = .ok (.bool true) W := fun W => by rw [HE5.out 0, HE6.out 0]; exact h43.out W
    clear h40 h41 h42 h43 A1 A2 A3 A4 A7 A8 HE1 HE2 HE3 HE4 HE5 HE6 HN7 HN8
    have r1 := (F1.out v8 (Below.refl _ _)).range
    have r2 := (F2.out v8 (Below.refl _ _)).range
    go_wp2_with (first
      | ((with_reducible refine wpL_loadG 47 b1 0 es1 _ ?_ ?_ r1 Try.underlying47 ?_ hi1 ?_); (first | rfl | go_simp); (rfl); (rfl); (simp only [Act.put, List.setIfInBounds_toArray, List.set_cons_zero, List.set_cons_succ]))
      | ((with_reducible refine wpL_loadG 47 b2 0 es2 _ ?_ ?_ r2 Try.underlying47 ?_ hi2 ?_); (first | rfl | go_simp); (rfl); (rfl); (simp only [Act.put, List.setIfInBounds_toArray, List.set_cons_zero, List.set_cons_succ])))
    refine Calls.mono (K40.out v8 (Below.refl _ _)) ?_
    rintro e u1 ⟨rfl, hb9⟩
    have r3 := (F3.out u1 hb9).range
    have r4 := (F4.out u1 hb9).range
    go_wp2_with (first
      | ((with_reducible refine wpL_loadG 39 b3 0 es3 _ ?_ ?_ r3 Try.underlying39 ?_ hi3 ?_); (first | rfl | go_simp); (rfl); (rfl); (simp only [Act.put, List.setIfInBounds_toArray, List.set_cons_zero, List.set_cons_succ]))
      | ((with_reducible refine wpL_loadG 39 b4 0 es4 _ ?_ ?_ r4 Try.underlying39 ?_ hi4 ?_); (first | rfl | go_simp); (rfl); (rfl); (simp only [Act.put, List.setIfInBounds_toArray, List.set_cons_zero, List.set_cons_succ])))
    refine Calls.mono (K41.out u1 hb9) ?_
    rintro e u2 ⟨rfl, hb10⟩
    have hb11 := hb9.trans (hb10.mono hb9.size)
    have r5 := (F5.out u2 hb11).range
    have r6 := (F6.out u2 hb11).range
    go_wp2_with (first
      | ((with_reducible refine wpL_loadG 41 b5 0 es5 _ ?_ ?_ r5 Try.underlying41 ?_ hi5 ?_); (first | rfl | go_simp); (rfl); (rfl); (simp only [Act.put, List.setIfInBounds_toArray, List.set_cons_zero, List.set_cons_succ]))
      | ((with_reducible refine wpL_loadG 41 b6 0 es6 _ ?_ ?_ r6 Try.underlying41 ?_ hi6 ?_); (first | rfl | go_simp); (rfl); (rfl); (simp only [Act.put, List.setIfInBounds_toArray, List.set_cons_zero, List.set_cons_succ])))
    refine Calls.mono (K42.out u2 hb11) ?_
    rintro e u3 ⟨rfl, hb12⟩
    go_wp2
    go_ret
    exact ⟨rfl, be8.out.trans ((hb11.trans (hb12.mono hb11.size)).mono be8.out.size)⟩
end Go.Proofs.Ytpiflgbcbhnmpaa
