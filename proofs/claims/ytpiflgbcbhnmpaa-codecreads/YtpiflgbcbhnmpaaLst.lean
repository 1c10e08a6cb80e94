/- Slices of structs that a call itself made; what the reader's list of commands answers. -/
import Derived.Test.YtpiflgbcbhnmpaaCmd
namespace Go.Proofs.Ytpiflgbcbhnmpaa
open Go.RowKit
abbrev S2 := List Nat × Bool
/-- append(s, x), one struct more. -/
theorem wpL_appendG {ops : Array Oper} {rest : List Oper} {Q : Exit → Act → World → Prop} {a : Act} {w : World} {dd : Option Tmp} {s x : Operand} {tt : TypeId} {pos : String} {af : Array Edge} (slT ty : TypeId) (sz bytes : Nat) (z : Value) (base : Nat) (v : Value) (n : Nat) (cs es : List Value) (q : Nat)
    (hu : Try.prog.underlying slT = some (.slice ty)) (hinf : (Try.prog.info? ty).map (fun i => (i.zero, i.size, i.bytes)) = some (some z, sz, bytes)) (hzs : z.cells.size = sz) (hszp : 0 < sz) (hbt : bytes ≤ 1000)
    (hs : a.eval s = v) (hx : a.eval x = .slice (some ⟨q, 0, none⟩) 1 1) (ho : w.ownsRow base ty sz v n cs) (hel : es.length = sz) (hq : ∀ j u, es[j]? = some u → w.cell? ⟨q, j, none⟩ = some u) (hone : ∀ u ∈ es, u.oneCell' = true) (hn : n < 1000000) (hbase : base ≤ w.heap.size)
    (h : ∀ p cap w', w'.ownsRow base ty sz (.slice p (n + 1) cap) (n + 1) (cs ++ es) → w.grownBy w' v.ownBlock → wpList Try.prog ops Q rest (a.put dd (.slice p (n + 1) cap)) w') :
    wpList Try.prog ops Q ({ dst := dd, op := .call { callee := .builtin .append, args := #[s, x], argTypes := #[slT, slT] }, type := tt, pos := pos, after := af, guard := none } :: rest) a w := by
  obtain ⟨i, hi, hz0, hz1, hz2⟩ := info_parts hinf
  have hby : (n + 1) * bytes ≤ 140737488355328 := Nat.le_trans (Nat.mul_le_mul (show n + 1 ≤ 1000000 by omega) hbt) (by decide)
  refine wpList_append_own w rfl s x slT rfl base ty i z sz bytes hu hi hz0 hz1 hz2 hzs hszp v n cs hs ho ⟨q, 0, none⟩ 1 1 es hx (by omega) ?_ hone (by simp only [maxLen]; omega) hby hbase ?_
  · intro j u hu2
    rw [Addr.add_mid, Nat.zero_add]
    exact hq j u hu2
  · intro v' w' ho' hg hnil
    obtain ⟨p, cap, rfl⟩ : ∃ p cap, v' = .slice p (n + 1) cap := by
      obtain ⟨_, ⟨_, h0⟩ | ⟨g, cap, cur, rfl, _⟩⟩ := ho'
      · omega
      · exact ⟨_, _, rfl⟩
    exact h p cap w' ho' hg
theorem ownsRow_block {w : World} {base : Nat} {ty : TypeId} {sz n : Nat} {v : Value} {cs : List Value} (h : w.ownsRow base ty sz v n cs) : ∀ k, v.ownBlock = some k → base ≤ k ∧ k < w.heap.size ∧ ∃ cur, w.heap[k]? = some (.cells cur ty (0, 0)) := by
  intro k hk
  obtain ⟨_, ⟨rfl, hn⟩ | ⟨g, cap, cur, rfl, hg, hh, _⟩⟩ := h
  · simp [Value.ownBlock] at hk
  · simp [Value.ownBlock] at hk
    subst hk
    exact ⟨hg, (Array.getElem?_eq_some_iff.1 hh).1, cur, hh⟩
theorem ownsRow_stay {w w' : World} {base : Nat} {ty : TypeId} {sz n : Nat} {v : Value} {cs : List Value} (h : w.ownsRow base ty sz v n cs) (hs : ∀ k, v.ownBlock = some k → w'.heap[k]? = w.heap[k]?) : w'.ownsRow base ty sz v n cs := by
  obtain ⟨h1, ⟨rfl, hn⟩ | ⟨g, cap, cur, rfl, hg, hh, r⟩⟩ := h
  · exact ⟨h1, Or.inl ⟨rfl, hn⟩⟩
  · exact ⟨h1, Or.inr ⟨g, cap, cur, rfl, hg, by rw [hs g rfl]; exact hh, r⟩⟩
theorem ownsRow_only {w w' : World} {base rb : Nat} {ty : TypeId} {sz n : Nat} {v : Value} {cs : List Value} (h : w.ownsRow base ty sz v n cs) (ho : Only rb w w') (hr : rb < base) : w'.ownsRow base ty sz v n cs :=
  ownsRow_stay h fun k hk => ho.block k (ownsRow_block h k hk).2.1 (by have := (ownsRow_block h k hk).1; omega)
theorem RdAt.grown {w w' : World} {rb : Nat} {bs : List Nat} {bad : Bool} (h : RdAt w rb bs bad) {r : Option Nat} (hg : w.grownBy w' r) (hr : ∀ k, r = some k → rb < k) : RdAt w' rb bs bad := by
  obtain ⟨x, h1, p, cap, e, a1, a2, a3⟩ := h
  have hb : ∀ k, k < w.heap.size → k ≤ rb → w'.heap[k]? = w.heap[k]? := fun k hk hkr => hg.block k hk (fun he => by have := hr k he.symm; omega)
  refine ⟨x, ?_, p, cap, e, a1, a2, fun hn => ?_⟩
  · have := h1.lt
    unfold Blk at *
    rw [hb rb this (Nat.le_refl _)]; exact h1
  · obtain ⟨sb, so, e2, hl, hc⟩ := a3 hn
    refine ⟨sb, so, e2, hl, fun i hi => ?_⟩
    rw [World.cell?_of_block (w := w) (a := ⟨sb, so + i, none⟩) (hb sb (lt_of_cell (hc i hi)) (by omega))]
    exact hc i hi
theorem Only.grown {w0 w w' : World} {rb : Nat} (h : Only rb w0 w) {r : Option Nat} (hg : w.grownBy w' r) (hr : ∀ k, r = some k → w0.heap.size ≤ k) : Only rb w0 w' :=
  ⟨hg.os.trans h.os, hg.tape.trans h.tape, hg.output.trans h.output, Nat.le_trans h.size hg.size, fun k hk hn => (hg.block k (Nat.lt_of_lt_of_le hk h.size) (fun he => by have := hr k he.symm; omega)).trans (h.block k hk hn)⟩
/-- Many things are read, one behind the other. -/
def pMany {α : Type} (f : S2 → α × S2) : Nat → S2 → List α × S2
  | 0, s => ([], s)
  | n + 1, s => ((f s).1 :: (pMany f n (f s).2).1, (pMany f n (f s).2).2)
theorem pMany_length {α : Type} (f : S2 → α × S2) : ∀ (n : Nat) (s : S2), (pMany f n s).1.length = n
  | 0, s => rfl
  | n + 1, s => by simp [pMany, pMany_length f n]
def pList {α : Type} (most : Nat) (f : S2 → α × S2) (s : S2) : List α × S2 := pMany f (pN most s).1 (pN most s).2
theorem pCmd_fit {s : S2} (h : Fit s) : Fit (pCmd s).2 := by
  unfold pCmd
  have h1 := h.num 6
  generalize pN 6 s = k at *
  simp only
  have h2 : Fit (if nU (k.1 : Int) then pN 2147483647 k.2 else (0, k.2)).2 := by split; exact h1.num _; exact h1
  generalize (if nU (k.1 : Int) then pN 2147483647 k.2 else (0, k.2)) = u at *
  have h3 : Fit (if nT (k.1 : Int) then pN 2147483647 u.2 else (0, u.2)).2 := by split; exact h2.num _; exact h2
  generalize (if nT (k.1 : Int) then pN 2147483647 u.2 else (0, u.2)) = t at *
  have h4 : Fit (if nW (k.1 : Int) then pN 4 t.2 else (0, t.2)).2 := by split; exact h3.num _; exact h3
  generalize (if nW (k.1 : Int) then pN 4 t.2 else (0, t.2)) = hh at *
  have h5 : Fit (if nC (k.1 : Int) then pN 19 hh.2 else (0, hh.2)).2 := by split; exact h4.num _; exact h4
  generalize (if nC (k.1 : Int) then pN 19 hh.2 else (0, hh.2)) = x at *
  split
  · exact h5.num _
  · exact h5
def C6.cells (c : C6) : List Value := [.int .i64 c.k, .int .i64 c.u, .int .i64 c.t, .int .i64 c.h, .int .i64 c.x, .int .i64 c.y]
/-- The call's own slice of commands. -/
def OwnC (w : World) (base : Nat) (v : Value) (cs : List C6) : Prop := w.ownsRow base 52 6 v cs.length (cs.flatMap C6.cells)
theorem info52 : (Try.prog.info? 52).map (fun i => (i.zero, i.size, i.bytes)) = some (some (.agg #[.int .i64 0, .int .i64 0, .int .i64 0, .int .i64 0, .int .i64 0, .int .i64 0]), 6, 48) := by kernel_rfl
def LstOk (w : World) (rb : Nat) (cs : List C6) (s : S2) (e : Ending) (w' : World) : Prop := ∃ p N cap, N = cs.length ∧ e = .returned (.slice p N cap) ∧ OwnC w' w.heap.size (.slice p N cap) cs ∧ RdAt w' rb s.1 s.2 ∧ Only rb w w'
set_option maxRecDepth 100000 in
set_option maxHeartbeats 4000000 in
theorem list93 (rb most : Nat) (hmost : most < 1000) (s : S2) (w : World) (h : RdAt w rb s.1 s.2) (hf : Fit s) :
    Calls Try.prog 93 #[.pointer (some ⟨rb, 0, none⟩), .int .i64 (most : Int), .func (.func 94) #[] #[]] w fun e w' => LstOk w rb (pList most pCmd s).1 (pList most pCmd s).2 e w' := by
  have hlt0 := h.lt
  have hc : Hid (Calls Try.prog 92 #[.pointer (some ⟨rb, 0, none⟩), .int .i64 (most : Int)] w fun e w' => e = .returned (.int .i64 ((pN most s).1 : Int)) ∧ RdAt w' rb (pN most s).2.1 (pN most s).2.2 ∧ Only rb w w') := upTo92 most rb (by omega) s.1 s.2 w h hf.1 hf.2
  have hle : (pN most s).1 ≤ most := pNum_le
  have hf1 := hf.num most
  unfold pList
  obtain ⟨N, s1, hn⟩ : ∃ N s1, pN most s = (N, s1) := ⟨_, _, rfl⟩
  rw [hn] at hc hle hf1 ⊢
  simp only at hle hc hf1
  have hN : N < 1000 := by omega
  have HT : Hid (∀ (W : World) (s : S2), RdAt W rb s.1 s.2 → Fit s → Calls Try.prog 94 #[.pointer (some ⟨rb, 0, none⟩)] W fun e w' => RdOk W rb (pCmd s).1.val (pCmd s).2 e w') := fun W s h hf => command94 rb s W h hf
  have HF1 := hid hf1
  obtain ⟨L, hL⟩ : ∃ L, L = pMany pCmd N s1 := ⟨_, rfl⟩
  have hLl : L.1.length = N := by rw [hL]; exact pMany_length _ _ _
  have HL0 := hid hL
  have HLl := hid hLl
  show Calls _ _ _ _ fun e w' => LstOk w rb (pMany pCmd N s1).1 (pMany pCmd N s1).2 e w'
  rw [← hL]
  clear hf1 hn h hf hle hL hLl
  go_enter Try.func93, Try.ntmps93
  go_wp2_with fail
  refine Calls.mono hc.out ?_
  rintro e w1 ⟨rfl, hR1, hO1⟩
  have HB : Hid (w.heap.size ≤ w1.heap.size) := hO1.size
  have HR1 := hid hR1
  have HO1 := hid hO1
  clear hR1 hO1 hc
  go_wp2_with fail
  go_loopw [7, 11] (fun v iv wr => ∃ (i : Nat) (p : Option Addr) (cap : Nat) (cs : List C6) (s : S2), v = .slice p i cap ∧ iv = .int .i64 (i : Nat) ∧ i ≤ N ∧ Hid (cs.length = i) ∧ Hid (L = (cs ++ (pMany pCmd (N - i) s).1, (pMany pCmd (N - i) s).2)) ∧ Hid (OwnC wr w.heap.size (.slice p i cap) cs) ∧ Hid (RdAt wr rb s.1 s.2) ∧ Hid (Only rb w wr) ∧ Hid (Fit s)) (fun _ iv _ => N - natOf iv)
  case atStart => exact ⟨0, none, 0, [], s1, rfl, rfl, by omega, rfl, HL0.out, ⟨rfl, Or.inl ⟨rfl, rfl⟩⟩, HR1, HO1, HF1⟩
  case round =>
    clear HR1 HO1 HF1 HL0
    obtain ⟨i, p, cap, cs, s, rfl, rfl, hi, hcs, hL, hOw, hR, hO, hF⟩ := hrel
    have w1' : IntKind.i64.wrap ((i : Int) + 1) = (i : Int) + 1 := by rw [IntKind.wrap_i64]; omega
    by_cases hlt : i < N
    · have e1 : (i : Int) < (N : Int) := by omega
      have hcall := hid (HT.out wr s hR.out hF.out)
      have HT0 := HT
      have HL2 : Hid (L = ((cs ++ [(pCmd s).1]) ++ (pMany pCmd (N - (i + 1)) (pCmd s).2).1, (pMany pCmd (N - (i + 1)) (pCmd s).2).2)) := by
        have h0 := hL.out
        rw [show N - i = (N - (i + 1)) + 1 by omega] at h0
        show _ = _
        rw [h0]
        simp [pMany]
      have HF2 := hid (pCmd_fit hF.out)
      clear hL
      generalize pCmd s = c at *
      obtain ⟨⟨k, u, t, h, x, y⟩, s2⟩ := c
      simp only at HL2 HF2 hcall
      go_wp2_with fail
      refine Calls.mono hcall.out ?_
      rintro e w2 ⟨rfl, hR2, hO2⟩
      unfold C6.val cmd
      have hOw2 := ownsRow_only hOw.out hO2 hlt0
      have hal : Below w2.heap.size w2 (w2.alloc (.cells ([Value.int .i64 k, .int .i64 u, .int .i64 t, .int .i64 h, .int .i64 x, .int .i64 y] : List Value).toArray 52)) := (Below.refl _ _).alloc (Nat.le_refl _) _
      have hOw3 := hid (ownsRow_stay (w' := w2.alloc (.cells ([Value.int .i64 k, .int .i64 u, .int .i64 t, .int .i64 h, .int .i64 x, .int .i64 y] : List Value).toArray 52)) hOw2 (fun g hg => hal.block g (ownsRow_block hOw2 g hg).2.1))
      have hR3 := hid (hR2.below hal)
      have hO3 := hid ((hO.out.trans hO2).alloc (.cells ([Value.int .i64 k, .int .i64 u, .int .i64 t, .int .i64 h, .int .i64 x, .int .i64 y] : List Value).toArray 52))
      have hq := hid (show ∀ j v, ([Value.int .i64 k, .int .i64 u, .int .i64 t, .int .i64 h, .int .i64 x, .int .i64 y] : List Value)[j]? = some v → (w2.alloc (.cells ([Value.int .i64 k, .int .i64 u, .int .i64 t, .int .i64 h, .int .i64 x, .int .i64 y] : List Value).toArray 52)).cell? ⟨w2.heap.size, j, none⟩ = some v from fun j v hv => by rw [(Blk.new w2 _ 52).cell]; exact hv)
      have hone := hid (show ∀ v ∈ ([Value.int .i64 k, .int .i64 u, .int .i64 t, .int .i64 h, .int .i64 x, .int .i64 y] : List Value), v.oneCell' = true from fun v hv => by simp at hv; rcases hv with rfl | rfl | rfl | rfl | rfl | rfl <;> rfl)
      have hbs := hid (show w.heap.size ≤ (w2.alloc (.cells ([Value.int .i64 k, .int .i64 u, .int .i64 t, .int .i64 h, .int .i64 x, .int .i64 y] : List Value).toArray 52)).heap.size from hO3.out.size)
      unfold OwnC at hOw3
      rw [hcs.out] at hOw3
      have hi6 : i < 1000000 := by omega
      clear hOw hOw2 hal hR hO hR2 hO2 hcall HT0
      go_wp2_with (first
        | ((with_reducible refine wpL_appendG 45 52 6 48 (.agg #[.int .i64 0, .int .i64 0, .int .i64 0, .int .i64 0, .int .i64 0, .int .i64 0]) w.heap.size (.slice p i cap) i (cs.flatMap C6.cells) [Value.int .i64 k, .int .i64 u, .int .i64 t, .int .i64 h, .int .i64 x, .int .i64 y] w2.heap.size Try.underlying45 info52 rfl (by omega) (by omega) ?_ ?_ hOw3.out rfl hq.out hone.out hi6 hbs.out ?_); (rfl); (rfl); (intro pm cm w5 hO6 hg6); (simp only [Act.put, List.setIfInBounds_toArray, List.set_cons_zero, List.set_cons_succ])))
      have hbk := ownsRow_block hOw3.out
      have HR6 := hid (hR3.out.grown hg6 (fun k hk => by have := (hbk k hk).1; omega))
      have HO7 := hid (hO3.out.grown hg6 (fun k hk => (hbk k hk).1))
      have HO6 : Hid (OwnC w5 w.heap.size (.slice pm (i + 1) cm) (cs ++ [⟨k, u, t, h, x, y⟩])) := by
        show World.ownsRow _ _ _ _ _ _ _
        rw [List.length_append, hcs.out, List.flatMap_append]
        exact hO6
      have HCL : Hid ((cs ++ [(⟨k, u, t, h, x, y⟩ : C6)]).length = i + 1) := by show _ = _; rw [List.length_append, hcs.out]; rfl
      clear hO6 hg6 hbk
      go_wp2_with fail
      go_roundw
      case rel => exact ⟨i + 1, pm, cm, cs ++ [⟨k, u, t, h, x, y⟩], s2, rfl, by go_num, by omega, HCL, HL2, HO6, HR6, HO7, HF2⟩
      case measure => simp [natOf]; omega
    · have e1 : ¬ (i : Int) < (N : Int) := by omega
      obtain rfl : i = N := by omega
      have HL2 : Hid (L = (cs, s)) := by
        show _ = _
        rw [hL.out, Nat.sub_self]
        simp [pMany]
      clear hL HT
      go_wp2_with fail
      go_ret
      rw [HL2.out]
      exact ⟨p, i, cap, hcs.out.symm, rfl, hOw.out, hR.out, hO.out⟩
end Go.Proofs.Ytpiflgbcbhnmpaa
