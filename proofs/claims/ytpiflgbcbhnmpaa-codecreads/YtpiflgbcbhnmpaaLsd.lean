/- What the reader's list of sealed commands answers. -/
import Derived.Test.YtpiflgbcbhnmpaaSld
namespace Go.Proofs.Ytpiflgbcbhnmpaa
open Go.RowKit
theorem foldl_set (E : List Value) : ∀ (k : Nat) (a : Array Value), a.size = k + E.length → (E.zipIdx k).foldl (fun cs x => cs.setIfInBounds x.2 x.1) a = (a.toList.take k ++ E).toArray := by
  induction E with
  | nil =>
    intro k a h
    simp at h
    have e : a.toList.take k = a.toList := List.take_of_length_le (by simp; omega)
    simp [e]
  | cons x r ih =>
    intro k a h
    rw [List.zipIdx_cons, List.foldl_cons, ih (k + 1) _ (by simp at h ⊢; omega)]
    congr 1
    simp at h
    have hk : k < a.toList.length := by simp; omega
    rw [Array.toList_setIfInBounds, List.take_add_one, List.take_set_of_le (by omega), List.getElem?_set_self hk]
    simp
theorem run_build47 (E : List Value) (h : E.length = 37) (w : World) : (Instr.buildSlice 37 1 #[(0, .agg E.toArray)]).run Try.prog w = .ok (.slice (some ⟨w.heap.size, 0, none⟩) 1 1) (w.alloc (.cells E.toArray 47)) := by
  simp [go_sem, h]
  rw [foldl_set E 0 _ (by simp [h])]
  simp
/-- A new row of one struct. -/
theorem wpL_bs {P : Program} {ops : Array Oper} {rest : List Oper} {Q : Exit → Act → World → Prop} {a : Act} {w : World} {dd : Option Tmp} {x : Operand} {tt : TypeId} {pos : String} {af : Array Edge} (slT ty : TypeId) (E : List Value)
    (hx : a.eval x = .agg E.toArray) (hb : ∀ w, (Instr.buildSlice slT 1 #[(0, .agg E.toArray)]).run P w = .ok (.slice (some ⟨w.heap.size, 0, none⟩) 1 1) (w.alloc (.cells E.toArray ty)))
    (h : wpList P ops Q rest (a.put dd (.slice (some ⟨w.heap.size, 0, none⟩) 1 1)) (w.alloc (.cells E.toArray ty))) : wpList P ops Q ({ dst := dd, op := .buildSlice slT 1 #[(0, x)], type := tt, pos := pos, after := af, guard := none } :: rest) a w := by
  refine wpList_plain rfl fun K hK => ?_
  unfold Oper.wp execOp
  have e : (#[(0, x)] : Array (Nat × Operand)).map (fun (i, x) => (i, a.eval x)) = #[(0, .agg E.toArray)] := by simp [hx]
  simp only [e, Sem.run_bind, hb, Result.andThen_ok, Sem.run_pure]
  exact hK _ _ h
theorem OwnC.grown {w w' : World} {base : Nat} {v : Value} {cs : List C6} (h : OwnC w base v cs) {r : Option Nat} (hg : w.grownBy w' r) (hr : ∀ k, r = some k → ∀ cur, w.heap[k]? ≠ some (.cells cur 52 (0, 0))) : OwnC w' base v cs :=
  ownsRow_stay h fun k hk => by
    obtain ⟨_, h2, cur, h3⟩ := ownsRow_block h k hk
    exact hg.block k h2 (fun he => hr k he.symm cur h3)
theorem SdAt.length {w : World} {base : Nat} {d : Sd} {es : List Value} (h : SdAt w base d es) (ht : d.tag.length = 32) : es.length = 37 := by
  obtain ⟨cv, rfl, _⟩ := h
  simp [Sd.cells, ht]
theorem SdAt.mono {w : World} {base B : Nat} {d : Sd} {es : List Value} (h : SdAt w B d es) (hb : base ≤ B) : SdAt w base d es := by
  obtain ⟨cv, e, h⟩ := h
  exact ⟨cv, e, h.mono hb⟩
theorem SdAt.below {w w' : World} {base : Nat} {d : Sd} {es : List Value} (h : SdAt w base d es) (hb : Below w.heap.size w w') : SdAt w' base d es := by
  obtain ⟨cv, e, h⟩ := h
  exact ⟨cv, e, h.below hb⟩
theorem SdAt.only {w w' : World} {base rb : Nat} {d : Sd} {es : List Value} (h : SdAt w base d es) (ho : Only rb w w') (hr : rb < base) : SdAt w' base d es := by
  obtain ⟨cv, e, h⟩ := h
  exact ⟨cv, e, h.only ho hr⟩
theorem SdAt.grown {w w' : World} {base : Nat} {d : Sd} {es : List Value} (h : SdAt w base d es) {r : Option Nat} (hg : w.grownBy w' r) (hr : ∀ k, r = some k → ∀ cur, w.heap[k]? ≠ some (.cells cur 52 (0, 0))) : SdAt w' base d es := by
  obtain ⟨cv, e, h⟩ := h
  exact ⟨cv, e, h.grown hg hr⟩
theorem SdAt.one {w : World} {base : Nat} {d : Sd} {es : List Value} (h : SdAt w base d es) : ∀ v ∈ es, v.oneCell' = true := by
  obtain ⟨cv, rfl, h⟩ := h
  have hcv : cv.oneCell' = true := by
    obtain ⟨_, ⟨rfl, _⟩ | ⟨g, cap, cur, rfl, _⟩⟩ := h
    · rfl
    · rfl
  intro v hv
  simp only [Sd.cells, List.mem_cons] at hv
  rcases hv with rfl | rfl | rfl | rfl | rfl | hv
  · rfl
  · rfl
  · rfl
  · rfl
  · exact hcv
  · exact mapBy_one _ v hv
/-- The call's own slice of sealed commands. -/
def OwnS (w : World) (base : Nat) (v : Value) (ds : List Sd) : Prop := ∃ ess : List (List Value), ess.length = ds.length ∧ w.ownsRow base 47 37 v ds.length ess.flatten ∧ ∀ (i : Nat) (d : Sd) (es : List Value), ds[i]? = some d → ess[i]? = some es → es.length = 37 ∧ SdAt w base d es
theorem OwnS.nil (w : World) (base : Nat) : OwnS w base (.slice none 0 0) [] := ⟨[], rfl, ⟨rfl, Or.inl ⟨rfl, rfl⟩⟩, fun i d es h => by simp at h⟩
theorem OwnS.only {w w' : World} {base rb : Nat} {v : Value} {ds : List Sd} (h : OwnS w base v ds) (ho : Only rb w w') (hr : rb < base) : OwnS w' base v ds := by
  obtain ⟨ess, h1, h2, h3⟩ := h
  exact ⟨ess, h1, ownsRow_only h2 ho hr, fun i d es hd he => ⟨(h3 i d es hd he).1, (h3 i d es hd he).2.only ho hr⟩⟩
theorem OwnS.below {w w' : World} {base : Nat} {v : Value} {ds : List Sd} (h : OwnS w base v ds) (hb : Below w.heap.size w w') : OwnS w' base v ds := by
  obtain ⟨ess, h1, h2, h3⟩ := h
  exact ⟨ess, h1, ownsRow_stay h2 (fun k hk => hb.block k (ownsRow_block h2 k hk).2.1), fun i d es hd he => ⟨(h3 i d es hd he).1, (h3 i d es hd he).2.below hb⟩⟩
theorem info47 : (Try.prog.info? 47).map (fun i => (i.zero, i.size, i.bytes)) = some (some (.agg z47.toArray), 37, 88) := by rw [z47_eq]; kernel_rfl
theorem cells47 : (Value.agg z47.toArray).cells.size = 37 := by simp [Value.cells, z47, zB_length]
theorem pSeal_tag (s : S2) : (pSeal s).1.tag.length = 32 := by
  unfold pSeal pSeal0
  obtain ⟨m, s1, hm⟩ : ∃ a b, pN 9223372036854775807 s = (a, b) := ⟨_, _, rfl⟩
  simp only [hm]
  exact pDig_32
def LsdOk (w : World) (rb : Nat) (ds : List Sd) (s : S2) (e : Ending) (w' : World) : Prop := ∃ p N cap, N = ds.length ∧ e = .returned (.slice p N cap) ∧ OwnS w' w.heap.size (.slice p N cap) ds ∧ RdAt w' rb s.1 s.2 ∧ Only rb w w'
set_option maxRecDepth 100000 in
set_option maxHeartbeats 4000000 in
theorem list98 (rb most : Nat) (hmost : most < 1000) (s : S2) (w : World) (h : RdAt w rb s.1 s.2) (hf : Fit s) :
    Calls Try.prog 98 #[.pointer (some ⟨rb, 0, none⟩), .int .i64 (most : Int), .func (.func 67) #[] #[]] w fun e w' => LsdOk w rb (pList most pSeal s).1 (pList most pSeal s).2 e w' := by
  have hlt0 := h.lt
  have hc : Hid (Calls Try.prog 92 #[.pointer (some ⟨rb, 0, none⟩), .int .i64 (most : Int)] w fun e w' => e = .returned (.int .i64 ((pN most s).1 : Int)) ∧ RdAt w' rb (pN most s).2.1 (pN most s).2.2 ∧ Only rb w w') := upTo92 most rb (by omega) s.1 s.2 w h hf.1 hf.2
  have hle : (pN most s).1 ≤ most := pNum_le
  have hf1 := hf.num most
  unfold pList
  obtain ⟨N, s1, hn⟩ : ∃ N s1, pN most s = (N, s1) := ⟨_, _, rfl⟩
  rw [hn] at hc hle hf1 ⊢
  simp only at hle hc hf1
  have hN : N < 1000 := by omega
  have HT : Hid (∀ (W : World) (s : S2), RdAt W rb s.1 s.2 → Fit s → Calls Try.prog 67 #[.pointer (some ⟨rb, 0, none⟩)] W fun e w' => SldOk W rb (pSeal s).1 (pSeal s).2 e w') := fun W s h hf => sealed67 rb s W h hf
  have HF1 := hid hf1
  obtain ⟨L, hL⟩ : ∃ L, L = pMany pSeal N s1 := ⟨_, rfl⟩
  have hLl : L.1.length = N := by rw [hL]; exact pMany_length _ _ _
  have HL0 := hid hL
  have HLl := hid hLl
  show Calls _ _ _ _ fun e w' => LsdOk w rb (pMany pSeal N s1).1 (pMany pSeal N s1).2 e w'
  rw [← hL]
  clear hf1 hn h hf hle hL hLl
  go_enter Try.func98, Try.ntmps98
  go_wp2_with fail
  refine Calls.mono hc.out ?_
  rintro e w1 ⟨rfl, hR1, hO1⟩
  have HB : Hid (w.heap.size ≤ w1.heap.size) := hO1.size
  have HR1 := hid hR1
  have HO1 := hid hO1
  clear hR1 hO1 hc
  go_wp2_with fail
  go_loopw [7, 11] (fun v iv wr => ∃ (i : Nat) (p : Option Addr) (cap : Nat) (cs : List Sd) (s : S2), v = .slice p i cap ∧ iv = .int .i64 (i : Nat) ∧ i ≤ N ∧ Hid (cs.length = i) ∧ Hid (L = (cs ++ (pMany pSeal (N - i) s).1, (pMany pSeal (N - i) s).2)) ∧ Hid (OwnS wr w.heap.size (.slice p i cap) cs) ∧ Hid (RdAt wr rb s.1 s.2) ∧ Hid (Only rb w wr) ∧ Hid (Fit s)) (fun _ iv _ => N - natOf iv)
  case atStart => exact ⟨0, none, 0, [], s1, rfl, rfl, by omega, rfl, HL0.out, OwnS.nil _ _, HR1, HO1, HF1⟩
  case round =>
    clear HR1 HO1 HF1 HL0
    obtain ⟨i, p, cap, cs, s, rfl, rfl, hi, hcs, hL, hOw, hR, hO, hF⟩ := hrel
    have w1' : IntKind.i64.wrap ((i : Int) + 1) = (i : Int) + 1 := by rw [IntKind.wrap_i64]; omega
    by_cases hlt : i < N
    · have e1 : (i : Int) < (N : Int) := by omega
      have hcall := hid (HT.out wr s hR.out hF.out)
      have HL2 : Hid (L = ((cs ++ [(pSeal s).1]) ++ (pMany pSeal (N - (i + 1)) (pSeal s).2).1, (pMany pSeal (N - (i + 1)) (pSeal s).2).2)) := by
        have h0 := hL.out
        rw [show N - i = (N - (i + 1)) + 1 by omega] at h0
        show _ = _
        rw [h0]
        simp [pMany]
      have HF2 := hid (pSeal_fit hF.out)
      clear hL
      have htag := pSeal_tag s
      generalize pSeal s = c at *
      obtain ⟨d, s2⟩ := c
      simp only at HL2 HF2 hcall htag
      go_wp2_with fail
      refine Calls.mono hcall.out ?_
      rintro e w2 ⟨E, rfl, hSd, hR2, hO2⟩
      have hEl := hSd.length htag
      have hSd2 := hSd.mono hO.out.size
      have hOw2 := hOw.out.only hO2 hlt0
      have hal : Below w2.heap.size w2 (w2.alloc (.cells E.toArray 47)) := (Below.refl _ _).alloc (Nat.le_refl _) _
      have hOw3 := hid (hOw2.below hal)
      have hSd3 := hid (hSd2.below hal)
      have hR3 := hid (hR2.below hal)
      have hO3 := hid ((hO.out.trans hO2).alloc (.cells E.toArray 47))
      have hq := hid (show ∀ j v, E[j]? = some v → (w2.alloc (.cells E.toArray 47)).cell? ⟨w2.heap.size, j, none⟩ = some v from fun j v hv => by rw [(Blk.new w2 _ 47).cell]; exact hv)
      have hone := hid hSd.one
      have hbs := hid (show w.heap.size ≤ (w2.alloc (.cells E.toArray 47)).heap.size from hO3.out.size)
      have hi6 : i < 1000000 := by omega
      clear hOw hOw2 hal hR hO hR2 hO2 hcall hSd hSd2
      obtain ⟨ess, hel, hrow, hmem⟩ := hOw3.out
      rw [hcs.out] at hrow hel
      have HMEM := hid hmem
      have HEL := hid hel
      have HROW := hid hrow
      clear hOw3 hrow hmem hel
      have hbld := hid (fun W => run_build47 E hEl W)
      go_wp2_with (first
        | ((with_reducible refine wpL_bs 37 47 E ?_ hbld.out ?_); (rfl); (simp only [Act.put, List.setIfInBounds_toArray, List.set_cons_zero, List.set_cons_succ]))
        | ((with_reducible refine wpL_appendG 37 47 37 88 (.agg z47.toArray) w.heap.size (.slice p i cap) i ess.flatten E w2.heap.size Try.underlying37 info47 cells47 (by omega) (by omega) ?_ ?_ HROW.out hEl hq.out hone.out hi6 hbs.out ?_); (rfl); (rfl); (intro pm cm w5 hO6 hg6); (simp only [Act.put, List.setIfInBounds_toArray, List.set_cons_zero, List.set_cons_succ])))
      have hbk := ownsRow_block HROW.out
      have hno52 : ∀ k, (Value.slice p i cap).ownBlock = some k → ∀ cur, (w2.alloc (.cells E.toArray 47)).heap[k]? ≠ some (.cells cur 52 (0, 0)) := fun k hk cur he => by
        obtain ⟨_, _, cur2, h2⟩ := hbk k hk
        rw [h2] at he
        simp at he
      have HR6 := hid (hR3.out.grown hg6 (fun k hk => by have := (hbk k hk).1; omega))
      have HO7 := hid (hO3.out.grown hg6 (fun k hk => (hbk k hk).1))
      have HO6 : Hid (OwnS w5 w.heap.size (.slice pm (i + 1) cm) (cs ++ [d])) := by
        refine ⟨ess ++ [E], by rw [List.length_append, List.length_append, HEL.out, hcs.out]; rfl, ?_, fun n d' es hd he => ?_⟩
        · rw [List.length_append, hcs.out, List.flatten_append]
          simpa using hO6
        · rcases Nat.lt_or_ge n i with hn | hn
          · rw [List.getElem?_append_left (by rw [hcs.out]; exact hn)] at hd
            rw [List.getElem?_append_left (by rw [HEL.out]; exact hn)] at he
            obtain ⟨h1, h2⟩ := HMEM.out n d' es hd he
            exact ⟨h1, h2.grown hg6 hno52⟩
          · rw [List.getElem?_append_right (by rw [hcs.out]; exact hn), hcs.out] at hd
            rw [List.getElem?_append_right (by rw [HEL.out]; exact hn), HEL.out] at he
            have hz : n - i = 0 := by
              have := (List.getElem?_eq_some_iff.1 hd).1
              simp at this
              omega
            rw [hz] at hd he
            simp at hd he
            subst hd he
            exact ⟨hEl, hSd3.out.grown hg6 hno52⟩
      have HCL : Hid ((cs ++ [d]).length = i + 1) := by show _ = _; rw [List.length_append, hcs.out]; rfl
      clear hO6 hg6 hbk hno52
      go_wp2_with fail
      go_roundw
      case rel => exact ⟨i + 1, pm, cm, cs ++ [d], s2, rfl, by go_num, by omega, HCL, HL2, HO6, HR6, HO7, HF2⟩
      case measure => simp [natOf]; omega
    · have e1 : ¬ (i : Int) < (N : Int) := by omega
      obtain rfl : i = N := by omega
      have HL2 : Hid (L = (cs, s)) := by
        show _ = _
        rw [hL.out, Nat.sub_self]
        simp [pMany]
      clear hL HT
      go_wp2_with fail
      go_ret
      rw [HL2.out]
      exact ⟨p, i, cap, hcs.out.symm, rfl, hOw.out, hR.out, hO.out⟩
end Go.Proofs.Ytpiflgbcbhnmpaa
