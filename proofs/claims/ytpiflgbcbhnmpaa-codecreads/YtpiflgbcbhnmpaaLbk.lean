/- What the reader's list of blocks answers. -/
import Derived.Test.YtpiflgbcbhnmpaaRblk
namespace Go.Proofs.Ytpiflgbcbhnmpaa
open Go.RowKit
theorem run_build39 (E : List Value) (h : E.length = 98) (w : World) : (Instr.buildSlice 43 1 #[(0, .agg E.toArray)]).run Try.prog w = .ok (.slice (some ⟨w.heap.size, 0, none⟩) 1 1) (w.alloc (.cells E.toArray 39)) := by
  simp [go_sem, h]
  rw [foldl_set E 0 _ (by simp [h])]
  simp
theorem OwnS.grown {w w' : World} {base : Nat} {v : Value} {ds : List Sd} (h : OwnS w base v ds) {r : Option Nat} (hg : w.grownBy w' r) (hr : ∀ k, r = some k → ∃ cur, w.heap[k]? = some (.cells cur 39 (0, 0))) : OwnS w' base v ds := by
  obtain ⟨ess, h1, h2, h3⟩ := h
  refine ⟨ess, h1, ownsRow_stay h2 fun k hk => ?_, fun i d es hd he => ⟨(h3 i d es hd he).1, (h3 i d es hd he).2.grown hg fun k hk cur hc => ?_⟩⟩
  · obtain ⟨_, b2, cur, b3⟩ := ownsRow_block h2 k hk
    refine hg.block k b2 (fun he => ?_)
    obtain ⟨cur', b4⟩ := hr k he.symm
    rw [b3] at b4
    simp at b4
  · obtain ⟨cur', b4⟩ := hr k hk
    rw [hc] at b4
    simp at b4
theorem BkAt.length {w : World} {base : Nat} {k : Bk} {es : List Value} (h : BkAt w base k es) (hk : BkFit k) : es.length = 98 := by
  obtain ⟨v, rfl, _⟩ := h
  exact bkL_length _ _ _ _ _ (by rw [List.length_map]; exact hk.p) (by rw [List.length_map]; exact hk.r) (by rw [List.length_map]; exact hk.s)
theorem BkAt.mono {w : World} {base B : Nat} {d : Bk} {es : List Value} (h : BkAt w B d es) (hb : base ≤ B) : BkAt w base d es := by
  obtain ⟨cv, e, h⟩ := h
  exact ⟨cv, e, h.mono hb⟩
theorem BkAt.below {w w' : World} {base : Nat} {d : Bk} {es : List Value} (h : BkAt w base d es) (hb : Below w.heap.size w w') : BkAt w' base d es := by
  obtain ⟨cv, e, h⟩ := h
  exact ⟨cv, e, h.below hb⟩
theorem BkAt.only {w w' : World} {base rb : Nat} {d : Bk} {es : List Value} (h : BkAt w base d es) (ho : Only rb w w') (hr : rb < base) : BkAt w' base d es := by
  obtain ⟨cv, e, h⟩ := h
  exact ⟨cv, e, h.only ho hr⟩
theorem BkAt.grown {w w' : World} {base : Nat} {d : Bk} {es : List Value} (h : BkAt w base d es) {r : Option Nat} (hg : w.grownBy w' r) (hr : ∀ k, r = some k → ∃ cur, w.heap[k]? = some (.cells cur 39 (0, 0))) : BkAt w' base d es := by
  obtain ⟨cv, e, h⟩ := h
  exact ⟨cv, e, h.grown hg hr⟩
theorem BkAt.one {w : World} {base : Nat} {d : Bk} {es : List Value} (h : BkAt w base d es) : ∀ v ∈ es, v.oneCell' = true := by
  obtain ⟨cv, rfl, h⟩ := h
  have hcv : cv.oneCell' = true := by
    obtain ⟨_, _, ⟨_, ⟨rfl, _⟩ | ⟨g, cap, cur, rfl, _⟩⟩, _⟩ := h
    · rfl
    · rfl
  intro v hv
  simp only [Bk.cells, bkL, List.mem_cons, List.mem_append, List.not_mem_nil, or_false] at hv
  rcases hv with rfl | hv | hv | hv | rfl
  · rfl
  · exact mapBy_one _ v hv
  · exact mapBy_one _ v hv
  · exact mapBy_one _ v hv
  · exact hcv
/-- The call's own slice of blocks. -/
def OwnK (w : World) (base : Nat) (v : Value) (ds : List Bk) : Prop := ∃ ess : List (List Value), ess.length = ds.length ∧ w.ownsRow base 39 98 v ds.length ess.flatten ∧ ∀ (i : Nat) (d : Bk) (es : List Value), ds[i]? = some d → ess[i]? = some es → es.length = 98 ∧ BkAt w base d es
theorem OwnK.nil (w : World) (base : Nat) : OwnK w base (.slice none 0 0) [] := ⟨[], rfl, ⟨rfl, Or.inl ⟨rfl, rfl⟩⟩, fun i d es h => by simp at h⟩
theorem OwnK.only {w w' : World} {base rb : Nat} {v : Value} {ds : List Bk} (h : OwnK w base v ds) (ho : Only rb w w') (hr : rb < base) : OwnK w' base v ds := by
  obtain ⟨ess, h1, h2, h3⟩ := h
  exact ⟨ess, h1, ownsRow_only h2 ho hr, fun i d es hd he => ⟨(h3 i d es hd he).1, (h3 i d es hd he).2.only ho hr⟩⟩
theorem OwnK.below {w w' : World} {base : Nat} {v : Value} {ds : List Bk} (h : OwnK w base v ds) (hb : Below w.heap.size w w') : OwnK w' base v ds := by
  obtain ⟨ess, h1, h2, h3⟩ := h
  exact ⟨ess, h1, ownsRow_stay h2 (fun k hk => hb.block k (ownsRow_block h2 k hk).2.1), fun i d es hd he => ⟨(h3 i d es hd he).1, (h3 i d es hd he).2.below hb⟩⟩
theorem info39 : (Try.prog.info? 39).map (fun i => (i.zero, i.size, i.bytes)) = some (some (.agg z39.toArray), 98, 128) := by
  unfold z39 bkL; rw [zB_eq]; kernel_rfl
theorem cells39 : (Value.agg z39.toArray).cells.size = 98 := by
  show z39.toArray.size = 98
  simp [z39, bkL, zB_length]
def LbkOk (w : World) (rb : Nat) (ds : List Bk) (s : S2) (e : Ending) (w' : World) : Prop := ∃ p N cap, N = ds.length ∧ e = .returned (.slice p N cap) ∧ OwnK w' w.heap.size (.slice p N cap) ds ∧ RdAt w' rb s.1 s.2 ∧ Only rb w w'
set_option maxRecDepth 100000 in
set_option maxHeartbeats 4000000 in
theorem list99 (rb most : Nat) (hmost : most < 1000) (s : S2) (w : World) (h : RdAt w rb s.1 s.2) (hf : Fit s) :
    Calls Try.prog 99 #[.pointer (some ⟨rb, 0, none⟩), .int .i64 (most : Int), .func (.func 71) #[] #[]] w fun e w' => LbkOk w rb (pList most pBlk s).1 (pList most pBlk s).2 e w' := by
  have hlt0 := h.lt
  have hc : Hid (Calls Try.prog 92 #[.pointer (some ⟨rb, 0, none⟩), .int .i64 (most : Int)] w fun e w' => e = .returned (.int .i64 ((pN most s).1 : Int)) ∧ RdAt w' rb (pN most s).2.1 (pN most s).2.2 ∧ Only rb w w') := upTo92 most rb (by omega) s.1 s.2 w h hf.1 hf.2
  have hle : (pN most s).1 ≤ most := pNum_le
  have hf1 := hf.num most
  unfold pList
  obtain ⟨N, s1, hn⟩ : ∃ N s1, pN most s = (N, s1) := ⟨_, _, rfl⟩
  rw [hn] at hc hle hf1 ⊢
  simp only at hle hc hf1
  have hN : N < 1000 := by omega
  have HT : Hid (∀ (W : World) (s : S2), RdAt W rb s.1 s.2 → Fit s → Calls Try.prog 71 #[.pointer (some ⟨rb, 0, none⟩)] W fun e w' => BlkOk W rb (pBlk s).1 (pBlk s).2 e w') := fun W s h hf => block71 rb s W h hf
  have HF1 := hid hf1
  obtain ⟨L, hL⟩ : ∃ L, L = pMany pBlk N s1 := ⟨_, rfl⟩
  have hLl : L.1.length = N := by rw [hL]; exact pMany_length _ _ _
  have HL0 := hid hL
  have HLl := hid hLl
  show Calls _ _ _ _ fun e w' => LbkOk w rb (pMany pBlk N s1).1 (pMany pBlk N s1).2 e w'
  rw [← hL]
  clear hf1 hn h hf hle hL hLl
  go_enter Try.func99, Try.ntmps99
  go_wp2_with fail
  refine Calls.mono hc.out ?_
  rintro e w1 ⟨rfl, hR1, hO1⟩
  have HB : Hid (w.heap.size ≤ w1.heap.size) := hO1.size
  have HR1 := hid hR1
  have HO1 := hid hO1
  clear hR1 hO1 hc
  go_wp2_with fail
  go_loopw [7, 11] (fun v iv wr => ∃ (i : Nat) (p : Option Addr) (cap : Nat) (cs : List Bk) (s : S2), v = .slice p i cap ∧ iv = .int .i64 (i : Nat) ∧ i ≤ N ∧ Hid (cs.length = i) ∧ Hid (L = (cs ++ (pMany pBlk (N - i) s).1, (pMany pBlk (N - i) s).2)) ∧ Hid (OwnK wr w.heap.size (.slice p i cap) cs) ∧ Hid (RdAt wr rb s.1 s.2) ∧ Hid (Only rb w wr) ∧ Hid (Fit s)) (fun _ iv _ => N - natOf iv)
  case atStart => exact ⟨0, none, 0, [], s1, rfl, rfl, by omega, rfl, HL0.out, OwnK.nil _ _, HR1, HO1, HF1⟩
  case round =>
    clear HR1 HO1 HF1 HL0
    obtain ⟨i, p, cap, cs, s, rfl, rfl, hi, hcs, hL, hOw, hR, hO, hF⟩ := hrel
    have w1' : IntKind.i64.wrap ((i : Int) + 1) = (i : Int) + 1 := by rw [IntKind.wrap_i64]; omega
    by_cases hlt : i < N
    · have e1 : (i : Int) < (N : Int) := by omega
      have hcall := hid (HT.out wr s hR.out hF.out)
      have HL2 : Hid (L = ((cs ++ [(pBlk s).1]) ++ (pMany pBlk (N - (i + 1)) (pBlk s).2).1, (pMany pBlk (N - (i + 1)) (pBlk s).2).2)) := by
        have h0 := hL.out
        rw [show N - i = (N - (i + 1)) + 1 by omega] at h0
        show _ = _
        rw [h0]
        simp [pMany]
      have HF2 := hid (pBlk_fit hF.out)
      clear hL
      have htag := pBlk_bk s
      generalize pBlk s = c at *
      obtain ⟨d, s2⟩ := c
      simp only at HL2 HF2 hcall htag
      go_wp2_with fail
      refine Calls.mono hcall.out ?_
      rintro e w2 ⟨E, rfl, hSd, hR2, hO2⟩
      have hEl := hSd.length htag
      have hSd2 := hSd.mono hO.out.size
      have hOw2 := hOw.out.only hO2 hlt0
      have hal : Below w2.heap.size w2 (w2.alloc (.cells E.toArray 39)) := (Below.refl _ _).alloc (Nat.le_refl _) _
      have hOw3 := hid (hOw2.below hal)
      have hSd3 := hid (hSd2.below hal)
      have hR3 := hid (hR2.below hal)
      have hO3 := hid ((hO.out.trans hO2).alloc (.cells E.toArray 39))
      have hq := hid (show ∀ j v, E[j]? = some v → (w2.alloc (.cells E.toArray 39)).cell? ⟨w2.heap.size, j, none⟩ = some v from fun j v hv => by rw [(Blk.new w2 _ 39).cell]; exact hv)
      have hone := hid hSd.one
      have hbs := hid (show w.heap.size ≤ (w2.alloc (.cells E.toArray 39)).heap.size from hO3.out.size)
      have hi6 : i < 1000000 := by omega
      clear hOw hOw2 hal hR hO hR2 hO2 hcall hSd hSd2
      obtain ⟨ess, hel, hrow, hmem⟩ := hOw3.out
      rw [hcs.out] at hrow hel
      have HMEM := hid hmem
      have HEL := hid hel
      have HROW := hid hrow
      clear hOw3 hrow hmem hel
      have hbld := hid (fun W => run_build39 E hEl W)
      go_wp2_with (first
        | ((with_reducible refine wpL_bs 43 39 E ?_ hbld.out ?_); (rfl); (simp only [Act.put, List.setIfInBounds_toArray, List.set_cons_zero, List.set_cons_succ]))
        | ((with_reducible refine wpL_appendG 43 39 98 128 (.agg z39.toArray) w.heap.size (.slice p i cap) i ess.flatten E w2.heap.size Try.underlying43 info39 cells39 (by omega) (by omega) ?_ ?_ HROW.out hEl hq.out hone.out hi6 hbs.out ?_); (rfl); (rfl); (intro pm cm w5 hO6 hg6); (simp only [Act.put, List.setIfInBounds_toArray, List.set_cons_zero, List.set_cons_succ])))
      have hbk := ownsRow_block HROW.out
      have hno : ∀ k, (Value.slice p i cap).ownBlock = some k → ∃ cur, (w2.alloc (.cells E.toArray 39)).heap[k]? = some (.cells cur 39 (0, 0)) := fun k hk => (hbk k hk).2.2
      have HR6 := hid (hR3.out.grown hg6 (fun k hk => by have := (hbk k hk).1; omega))
      have HO7 := hid (hO3.out.grown hg6 (fun k hk => (hbk k hk).1))
      have HO6 : Hid (OwnK w5 w.heap.size (.slice pm (i + 1) cm) (cs ++ [d])) := by
        refine ⟨ess ++ [E], by rw [List.length_append, List.length_append, HEL.out, hcs.out]; rfl, ?_, fun n d' es hd he => ?_⟩
        · rw [List.length_append, hcs.out, List.flatten_append]
          simpa using hO6
        · rcases Nat.lt_or_ge n i with hn | hn
          · rw [List.getElem?_append_left (by rw [hcs.out]; exact hn)] at hd
            rw [List.getElem?_append_left (by rw [HEL.out]; exact hn)] at he
            obtain ⟨h1, h2⟩ := HMEM.out n d' es hd he
            exact ⟨h1, h2.grown hg6 hno⟩
          · rw [List.getElem?_append_right (by rw [hcs.out]; exact hn), hcs.out] at hd
            rw [List.getElem?_append_right (by rw [HEL.out]; exact hn), HEL.out] at he
            have hz : n - i = 0 := by
              have := (List.getElem?_eq_some_iff.1 hd).1
              simp at this
              omega
            rw [hz] at hd he
            simp at hd he
            subst hd he
            exact ⟨hEl, hSd3.out.grown hg6 hno⟩
      have HCL : Hid ((cs ++ [d]).length = i + 1) := by show _ = _; rw [List.length_append, hcs.out]; rfl
      clear hO6 hg6 hbk hno
      go_wp2_with fail
      go_roundw
      case rel => exact ⟨i + 1, pm, cm, cs ++ [d], s2, rfl, by go_num, by omega, HCL, HL2, HO6, HR6, HO7, HF2⟩
      case measure => simp [natOf]; omega
    · have e1 : ¬ (i : Int) < (N : Int) := by omega
      obtain rfl : i = N := by omega
      have HL2 : Hid (L = (cs, s)) := by
        show _ = _
        rw [hL.out, Nat.sub_self]
        simp [pMany]
      clear hL HT
      go_wp2_with fail
      go_ret
      rw [HL2.out]
      exact ⟨p, i, cap, hcs.out.symm, rfl, hOw.out, hR.out, hO.out⟩
end Go.Proofs.Ytpiflgbcbhnmpaa
