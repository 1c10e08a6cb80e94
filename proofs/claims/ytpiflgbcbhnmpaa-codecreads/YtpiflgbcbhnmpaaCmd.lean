/- What the reader's command answers. -/
import Derived.Test.YtpiflgbcbhnmpaaDig
import Derived.Test.YtpiflgbcbhnmpaaFormed
namespace Go.Proofs.Ytpiflgbcbhnmpaa
open Go.RowKit
/-- What a struct is made in: the result's variable, one's own, the reader. -/
structure St (w0 w : World) (rb B : Nat) (ty : TypeId) (z l : List Value) (s : List Nat × Bool) : Prop where
  res : Blk w B z ty
  own : Blk w (B + 1) l ty
  rd : RdAt w rb s.1 s.2
  only : Only rb w0 w
  lo : w0.heap.size ≤ B
  rlt : rb < w0.heap.size
theorem RdAt.setNew {w : World} {rb : Nat} {bs : List Nat} {bad : Bool} (h : RdAt w rb bs bad) {g : Nat} (hg : rb < g) (j : Nat) (v : Value) : RdAt (w.setCell ⟨g, j, none⟩ v) rb bs bad := by
  obtain ⟨x, h1, p, cap, e, a1, a2, a3⟩ := h
  refine ⟨x, h1.set_ne _ (by show rb ≠ g; omega) v, p, cap, e, a1, a2, fun hn => ?_⟩
  obtain ⟨sb, so, e2, hl, hc⟩ := a3 hn
  exact ⟨sb, so, e2, hl, fun i hi => keepCell (hc i hi) (by omega) j v⟩
theorem RdAt.setsNew {w : World} {rb : Nat} {bs : List Nat} {bad : Bool} (h : RdAt w rb bs bad) {g : Nat} (hg : rb < g) (o : Nat) (vs : List Value) : RdAt (w.setCells g o vs) rb bs bad := by
  obtain ⟨x, h1, p, cap, e, a1, a2, a3⟩ := h
  refine ⟨x, h1.setCells_ne g (by omega) o vs, p, cap, e, a1, a2, fun hn => ?_⟩
  obtain ⟨sb, so, e2, hl, hc⟩ := a3 hn
  refine ⟨sb, so, e2, hl, fun i hi => ?_⟩
  have hh : (w.setCells g o vs).heap[sb]? = w.heap[sb]? := heap_setCells g vs o w sb (by omega)
  rw [World.cell?_of_block (w := w) (a := ⟨sb, so + i, none⟩) hh]
  exact hc i hi
theorem St.call {w0 w w' : World} {rb B : Nat} {ty : TypeId} {z l : List Value} {s s' : List Nat × Bool} (h : St w0 w rb B ty z l s) (ho : Only rb w w') (hr : RdAt w' rb s'.1 s'.2) : St w0 w' rb B ty z l s' :=
  ⟨ho.blk h.res (by have := h.lo; have := h.rlt; omega), ho.blk h.own (by have := h.lo; have := h.rlt; omega), hr, h.only.trans ho, h.lo, h.rlt⟩
theorem St.below {w0 w w' : World} {rb B : Nat} {ty : TypeId} {z l : List Value} {s : List Nat × Bool} (h : St w0 w rb B ty z l s) (hb : Below w.heap.size w w') : St w0 w' rb B ty z l s :=
  h.call (Only.of_below hb) (h.rd.below hb)
theorem St.set {w0 w : World} {rb B : Nat} {ty : TypeId} {z l : List Value} {s : List Nat × Bool} (h : St w0 w rb B ty z l s) (j : Nat) (v : Value) : St w0 (w.setCell ⟨B + 1, j, none⟩ v) rb B ty z (l.set j v) s :=
  ⟨h.res.set_ne _ (by show B ≠ B + 1; omega) v, h.own.set j v, h.rd.setNew (by have := h.lo; have := h.rlt; omega) j v, h.only.setNew (by have := h.lo; omega) j v, h.lo, h.rlt⟩
theorem St.sets {w0 w : World} {rb B : Nat} {ty : TypeId} {z l : List Value} {s : List Nat × Bool} (h : St w0 w rb B ty z l s) (o : Nat) (vs : List Value) (hl : o + vs.length ≤ l.length) : St w0 (w.setCells (B + 1) o vs) rb B ty z (over l o vs) s :=
  ⟨h.res.setCells_ne _ (by omega) o vs, Blk.setCells vs o h.own hl, h.rd.setsNew (by have := h.lo; have := h.rlt; omega) o vs, h.only.setCellsNew (by have := h.lo; omega) o vs, h.lo, h.rlt⟩
/-- The end: the result is one's own variable. -/
theorem St.fin {w0 w : World} {rb B : Nat} {ty : TypeId} {z l : List Value} {s : List Nat × Bool} (h : St w0 w rb B ty z l s) (hl : z.length = l.length) : Blk (w.setCells B 0 l) B l ty ∧ RdAt (w.setCells B 0 l) rb s.1 s.2 ∧ Only rb w0 (w.setCells B 0 l) := by
  refine ⟨?_, h.rd.setsNew (by have := h.lo; have := h.rlt; omega) 0 l, h.only.setCellsNew h.lo 0 l⟩
  have := Blk.setCells l 0 h.res (by omega)
  rw [show over z 0 l = l by simp [over, hl]] at this
  exact this
theorem hid {p : Prop} (h : p) : Hid p := h
/-- The same for six cells, written one by one. -/
theorem St.fin6 {w0 w : World} {rb B : Nat} {ty : TypeId} {z0 z1 z2 z3 z4 z5 v0 v1 v2 v3 v4 v5 : Value} {l : List Value} {s : List Nat × Bool} (h : St w0 w rb B ty [z0, z1, z2, z3, z4, z5] l s) :
    Blk ((((((w.setCell ⟨B, 0, none⟩ v0).setCell ⟨B, 1, none⟩ v1).setCell ⟨B, 2, none⟩ v2).setCell ⟨B, 3, none⟩ v3).setCell ⟨B, 4, none⟩ v4).setCell ⟨B, 5, none⟩ v5) B [v0, v1, v2, v3, v4, v5] ty ∧ RdAt ((((((w.setCell ⟨B, 0, none⟩ v0).setCell ⟨B, 1, none⟩ v1).setCell ⟨B, 2, none⟩ v2).setCell ⟨B, 3, none⟩ v3).setCell ⟨B, 4, none⟩ v4).setCell ⟨B, 5, none⟩ v5) rb s.1 s.2 ∧ Only rb w0 ((((((w.setCell ⟨B, 0, none⟩ v0).setCell ⟨B, 1, none⟩ v1).setCell ⟨B, 2, none⟩ v2).setCell ⟨B, 3, none⟩ v3).setCell ⟨B, 4, none⟩ v4).setCell ⟨B, 5, none⟩ v5) := by
  have hr : rb < B := by have := h.lo; have := h.rlt; omega
  exact ⟨(((((h.res.set 0 v0).set 1 v1).set 2 v2).set 3 v3).set 4 v4).set 5 v5, (((((h.rd.setNew hr 0 v0).setNew hr 1 v1).setNew hr 2 v2).setNew hr 3 v3).setNew hr 4 v4).setNew hr 5 v5, (((((h.only.setNew h.lo 0 v0).setNew h.lo 1 v1).setNew h.lo 2 v2).setNew h.lo 3 v3).setNew h.lo 4 v4).setNew h.lo 5 v5⟩
def pN (most : Nat) (s : List Nat × Bool) : Nat × List Nat × Bool := pNum most s.1 s.2
/-- What the reader's calls want of its bytes. -/
def Fit (s : List Nat × Bool) : Prop := Byt s.1 ∧ s.1.length < 100000000000
theorem Fit.num {s : List Nat × Bool} (h : Fit s) (most : Nat) : Fit (pN most s).2 := ⟨pNum_byt h.1, Nat.lt_of_le_of_lt pNum_len h.2⟩
theorem upTo_st {w0 w : World} {rb B : Nat} {ty : TypeId} {z l : List Value} {s : List Nat × Bool} (h : St w0 w rb B ty z l s) (hf : Fit s) (most : Nat) (hm : most < 4611686018427387904) :
    Calls Try.prog 92 #[.pointer (some ⟨rb, 0, none⟩), .int .i64 (most : Int)] w fun e w' => e = .returned (.int .i64 ((pN most s).1 : Int)) ∧ St w0 w' rb B ty z l (pN most s).2 ∧ Only rb w w' :=
  (upTo92 most rb hm s.1 s.2 w h.rd hf.1 hf.2).mono fun _ _ ⟨he, hr, ho⟩ => ⟨he, h.call ho hr, ho⟩
/-- A command. -/
structure C6 where
  k : Int
  u : Int
  t : Int
  h : Int
  x : Int
  y : Int
def C6.val (c : C6) : Value := cmd c.k c.u c.t c.h c.x c.y
/-- A command is read. -/
def pCmd (s : List Nat × Bool) : C6 × List Nat × Bool :=
  let k := pN 6 s
  let u := if nU (k.1 : Int) then pN 2147483647 k.2 else (0, k.2)
  let t := if nT (k.1 : Int) then pN 2147483647 u.2 else (0, u.2)
  let h := if nW (k.1 : Int) then pN 4 t.2 else (0, t.2)
  let x := if nC (k.1 : Int) then pN 19 h.2 else (0, h.2)
  let y := if nC (k.1 : Int) then pN 19 x.2 else (0, x.2)
  (⟨k.1, u.1, t.1, h.1, x.1, y.1⟩, y.2)
def z52 : List Value := [.int .i64 0, .int .i64 0, .int .i64 0, .int .i64 0, .int .i64 0, .int .i64 0]
set_option maxRecDepth 100000 in
set_option maxHeartbeats 4000000 in
theorem command94 (rb : Nat) (s : List Nat × Bool) (w : World) (h : RdAt w rb s.1 s.2) (hf : Fit s) :
    Calls Try.prog 94 #[.pointer (some ⟨rb, 0, none⟩)] w fun e w' => RdOk w rb (pCmd s).1.val (pCmd s).2 e w' := by
  have hS : St w ((w.alloc (.cells z52.toArray 52)).alloc (.cells z52.toArray 52)) rb w.heap.size 52 z52 z52 s :=
    ⟨(Blk.new _ _ _).alloc _, Blk.new' _ _ _ _ (by simp), h.below (((Below.refl _ _).alloc (Nat.le_refl _) _).alloc (by simp) _), ((Only.refl rb w).alloc _).alloc _, Nat.le_refl _, h.lt⟩
  clear h
  have hnb : Hid (∀ k W, Calls Try.prog 88 #[.int .i64 k] W fun e w' => e = .returned (.agg #[.bool (nU k), .bool (nT k), .bool (nW k), .bool (nC k)]) ∧ Below W.heap.size W w') := fun k W => namedBy_any k W
  have hup : Hid (∀ (l : List Value) (s : List Nat × Bool) (W : World) (most : Nat), St w W rb w.heap.size 52 z52 l s → Fit s → most < 4611686018427387904 → Calls Try.prog 92 #[.pointer (some ⟨rb, 0, none⟩), .int .i64 (most : Int)] W fun e w' => e = .returned (.int .i64 ((pN most s).1 : Int)) ∧ St w w' rb w.heap.size 52 z52 l (pN most s).2 ∧ Only rb W w') := fun l s W most h hf hm => upTo_st h hf most hm
  have hf1 := hf.num 6
  unfold z52 at hS hup
  unfold pCmd
  obtain ⟨k, s1, hk⟩ : ∃ k s1, pN 6 s = (k, s1) := ⟨_, _, rfl⟩
  have hc1 := hid (hup.out _ s _ 6 hS hf (by omega))
  simp only [hk] at hf1 hc1 ⊢
  have hcase : (nU (k : Int) = true ∧ nT (k : Int) = false ∧ nW (k : Int) = false ∧ nC (k : Int) = true) ∨ (nU (k : Int) = true ∧ nT (k : Int) = true ∧ nW (k : Int) = false ∧ nC (k : Int) = false) ∨ (nU (k : Int) = true ∧ nT (k : Int) = false ∧ nW (k : Int) = true ∧ nC (k : Int) = false) ∨ (nU (k : Int) = true ∧ nT (k : Int) = false ∧ nW (k : Int) = false ∧ nC (k : Int) = false) ∨ (nU (k : Int) = false ∧ nT (k : Int) = false ∧ nW (k : Int) = false ∧ nC (k : Int) = false) := by
    have hc : (k : Int) = 1 ∨ (k : Int) = 2 ∨ (k : Int) = 3 ∨ (k : Int) = 4 ∨ (k : Int) = 5 ∨ (((k : Int) == 1) = false ∧ ((k : Int) == 2) = false ∧ ((k : Int) == 3) = false ∧ ((k : Int) == 4) = false ∧ ((k : Int) == 5) = false) := by simp; omega
    rcases hc with h | h | h | h | h | ⟨h1, h2, h3, h4, h5⟩
    case' inr.inr.inr.inr.inr => simp [nU, nT, nW, nC, h1, h2, h3, h4, h5]
    all_goals
      rw [h]
      decide
  have hnk := hid (hnb.out (k : Int))
  clear hnb hS
  have HF1 := hid hf1
  have HF := hid hf
  clear hf1 hf
  rcases hcase with ⟨q1, q2, q3, q4⟩ | ⟨q1, q2, q3, q4⟩ | ⟨q1, q2, q3, q4⟩ | ⟨q1, q2, q3, q4⟩ | ⟨q1, q2, q3, q4⟩
  · simp only [q1, q2, q3, q4, if_true, Bool.false_eq_true, if_false]
    simp only [q1, q2, q3, q4] at hnk
    clear q1 q2 q3 q4
    obtain ⟨u, su, hu⟩ : ∃ a b, pN 2147483647 s1 = (a, b) := ⟨_, _, rfl⟩
    have hfu := hid (HF1.out.num 2147483647)
    simp only [hu] at hfu ⊢
    have Ku : Hid (∀ (l : List Value) (W : World), St w W rb w.heap.size 52 [.int .i64 0, .int .i64 0, .int .i64 0, .int .i64 0, .int .i64 0, .int .i64 0] l s1 → Calls Try.prog 92 #[.pointer (some ⟨rb, 0, none⟩), .int .i64 2147483647] W fun e w' => e = .returned (.int .i64 (u : Int)) ∧ St w w' rb w.heap.size 52 [.int .i64 0, .int .i64 0, .int .i64 0, .int .i64 0, .int .i64 0, .int .i64 0] l su ∧ Only rb W w') := fun l W hS => by have h9 := hup.out l s1 W 2147483647 hS HF1.out (by omega); rw [hu] at h9; exact h9
    obtain ⟨x, sx, hx⟩ : ∃ a b, pN 19 su = (a, b) := ⟨_, _, rfl⟩
    have hfx := hid (hfu.out.num 19)
    simp only [hx] at hfx ⊢
    have Kx : Hid (∀ (l : List Value) (W : World), St w W rb w.heap.size 52 [.int .i64 0, .int .i64 0, .int .i64 0, .int .i64 0, .int .i64 0, .int .i64 0] l su → Calls Try.prog 92 #[.pointer (some ⟨rb, 0, none⟩), .int .i64 19] W fun e w' => e = .returned (.int .i64 (x : Int)) ∧ St w w' rb w.heap.size 52 [.int .i64 0, .int .i64 0, .int .i64 0, .int .i64 0, .int .i64 0, .int .i64 0] l sx ∧ Only rb W w') := fun l W hS => by have h9 := hup.out l su W 19 hS hfu.out (by omega); rw [hx] at h9; exact h9
    obtain ⟨y, sy, hy⟩ : ∃ a b, pN 19 sx = (a, b) := ⟨_, _, rfl⟩
    have hfy := hid (hfx.out.num 19)
    simp only [hy] at hfy ⊢
    have Ky : Hid (∀ (l : List Value) (W : World), St w W rb w.heap.size 52 [.int .i64 0, .int .i64 0, .int .i64 0, .int .i64 0, .int .i64 0, .int .i64 0] l sx → Calls Try.prog 92 #[.pointer (some ⟨rb, 0, none⟩), .int .i64 19] W fun e w' => e = .returned (.int .i64 (y : Int)) ∧ St w w' rb w.heap.size 52 [.int .i64 0, .int .i64 0, .int .i64 0, .int .i64 0, .int .i64 0, .int .i64 0] l sy ∧ Only rb W w') := fun l W hS => by have h9 := hup.out l sx W 19 hS hfx.out (by omega); rw [hy] at h9; exact h9
    clear hup hk hu hx hy
    unfold C6.val cmd
    go_enter Try.func94, Try.ntmps94
    go_wp2_with fail
    refine Calls.mono hc1.out ?_
    rintro e w1 ⟨rfl, S1, O1⟩
    have c1 := S1.own.cell 0
    have f1 := S1.own.frozen 0
    rw [show ([_, _, _, _, _, _] : List Value)[0]? = some _ from rfl] at c1
    have S2 := hid (S1.set 0 (.int .i64 (k : Int)))
    simp only [List.set_cons_zero] at S2
    clear S1 O1 hc1
    go_wp2_with fail
    refine Calls.mono (hnk.out _) ?_
    rintro e w2 ⟨rfl, hb2⟩
    have S3 := S2.out.below hb2
    clear S2 hb2 c1 f1 hnk
    have S4 := hid (S3.below ((Below.refl w2.heap.size w2).alloc (Nat.le_refl _) (.cells ([Value.bool true, Value.bool false, Value.bool false, Value.bool true] : List Value).toArray 118)))
    have N4 : Hid (Blk (w2.alloc (.cells ([Value.bool true, Value.bool false, Value.bool false, Value.bool true] : List Value).toArray 118)) w2.heap.size [Value.bool true, Value.bool false, Value.bool false, Value.bool true] 118) := Blk.new _ _ _
    have hrN := hid (show rb ≠ w2.heap.size by have := S3.rd.lt; omega)
    have hoN := hid (show w2.heap.size ≠ w.heap.size + 1 by have := S3.own.lt; omega)
    have hNN := hid (show w.heap.size + 1 < w2.heap.size from S3.own.lt)
    clear S3
    go_wp2_with fail
    refine Calls.mono (Ku.out _ _ S4.out) ?_
    rintro e w5 ⟨rfl, S5, O5⟩
    obtain ⟨N, hN⟩ : ∃ N, N = w2.heap.size := ⟨_, rfl⟩
    rw [← hN] at N4 hrN hoN hNN
    simp only [← hN]
    clear hN
    have N5 := O5.blk N4.out (Ne.symm hrN.out)
    have c5 := S5.own.cell 1
    have f5 := S5.own.frozen 1
    rw [show ([_, _, _, _, _, _] : List Value)[1]? = some _ from rfl] at c5
    have M5 := hid (S5.set 1 (.int .i64 (u : Int)))
    simp only [List.set_cons_zero, List.set_cons_succ] at M5
    have P5 := hid (N5.set_ne ⟨w.heap.size + 1, 1, none⟩ hoN.out (.int .i64 (u : Int)))
    have n50 := P5.out.cell 0
    rw [show ([_, _, _, _] : List Value)[0]? = some _ from rfl] at n50
    have n51 := P5.out.cell 1
    rw [show ([_, _, _, _] : List Value)[1]? = some _ from rfl] at n51
    have n52 := P5.out.cell 2
    rw [show ([_, _, _, _] : List Value)[2]? = some _ from rfl] at n52
    have n53 := P5.out.cell 3
    rw [show ([_, _, _, _] : List Value)[3]? = some _ from rfl] at n53
    clear S4 O5 N4 S5 N5 Ku
    go_wp2_with fail
    refine Calls.mono (Kx.out _ _ M5.out) ?_
    rintro e w6 ⟨rfl, S6, O6⟩
    have N6 := O6.blk P5.out (Ne.symm hrN.out)
    have c6 := S6.own.cell 4
    have f6 := S6.own.frozen 4
    rw [show ([_, _, _, _, _, _] : List Value)[4]? = some _ from rfl] at c6
    have M6 := hid (S6.set 4 (.int .i64 (x : Int)))
    simp only [List.set_cons_zero, List.set_cons_succ] at M6
    have P6 := hid (N6.set_ne ⟨w.heap.size + 1, 4, none⟩ hoN.out (.int .i64 (x : Int)))
    have n60 := P6.out.cell 0
    rw [show ([_, _, _, _] : List Value)[0]? = some _ from rfl] at n60
    have n61 := P6.out.cell 1
    rw [show ([_, _, _, _] : List Value)[1]? = some _ from rfl] at n61
    have n62 := P6.out.cell 2
    rw [show ([_, _, _, _] : List Value)[2]? = some _ from rfl] at n62
    have n63 := P6.out.cell 3
    rw [show ([_, _, _, _] : List Value)[3]? = some _ from rfl] at n63
    clear M5 O6 P5 S6 N6 Kx c5 f5 n50 n51 n52 n53
    go_wp2_with fail
    refine Calls.mono (Ky.out _ _ M6.out) ?_
    rintro e w7 ⟨rfl, S7, O7⟩
    have N7 := O7.blk P6.out (Ne.symm hrN.out)
    have c7 := S7.own.cell 5
    have f7 := S7.own.frozen 5
    rw [show ([_, _, _, _, _, _] : List Value)[5]? = some _ from rfl] at c7
    have M7 := hid (S7.set 5 (.int .i64 (y : Int)))
    simp only [List.set_cons_zero, List.set_cons_succ] at M7
    have P7 := hid (N7.set_ne ⟨w.heap.size + 1, 5, none⟩ hoN.out (.int .i64 (y : Int)))
    have n70 := P7.out.cell 0
    rw [show ([_, _, _, _] : List Value)[0]? = some _ from rfl] at n70
    have n71 := P7.out.cell 1
    rw [show ([_, _, _, _] : List Value)[1]? = some _ from rfl] at n71
    have n72 := P7.out.cell 2
    rw [show ([_, _, _, _] : List Value)[2]? = some _ from rfl] at n72
    have n73 := P7.out.cell 3
    rw [show ([_, _, _, _] : List Value)[3]? = some _ from rfl] at n73
    clear M6 O7 P6 S7 N7 Ky c6 f6 n60 n61 n62 n63
    obtain ⟨X, hX⟩ : ∃ X, X = w7.setCell ⟨w.heap.size + 1, 5, none⟩ (.int .i64 (y : Int)) := ⟨_, rfl⟩
    go_upto_region 13 with (fail)
    rw [← hX]
    rw [← hX] at M7 P7 n70 n71 n72 n73
    clear hX c7 f7
    have o0 := M7.out.own.cell 0
    rw [show ([_, _, _, _, _, _] : List Value)[0]? = some _ from rfl] at o0
    have r0 := M7.out.res.cell 0
    rw [show ([_, _, _, _, _, _] : List Value)[0]? = some _ from rfl] at r0
    have z0 := M7.out.res.frozen 0
    have o1 := M7.out.own.cell 1
    rw [show ([_, _, _, _, _, _] : List Value)[1]? = some _ from rfl] at o1
    have r1 := M7.out.res.cell 1
    rw [show ([_, _, _, _, _, _] : List Value)[1]? = some _ from rfl] at r1
    have z1 := M7.out.res.frozen 1
    have o2 := M7.out.own.cell 2
    rw [show ([_, _, _, _, _, _] : List Value)[2]? = some _ from rfl] at o2
    have r2 := M7.out.res.cell 2
    rw [show ([_, _, _, _, _, _] : List Value)[2]? = some _ from rfl] at r2
    have z2 := M7.out.res.frozen 2
    have o3 := M7.out.own.cell 3
    rw [show ([_, _, _, _, _, _] : List Value)[3]? = some _ from rfl] at o3
    have r3 := M7.out.res.cell 3
    rw [show ([_, _, _, _, _, _] : List Value)[3]? = some _ from rfl] at r3
    have z3 := M7.out.res.frozen 3
    have o4 := M7.out.own.cell 4
    rw [show ([_, _, _, _, _, _] : List Value)[4]? = some _ from rfl] at o4
    have r4 := M7.out.res.cell 4
    rw [show ([_, _, _, _, _, _] : List Value)[4]? = some _ from rfl] at r4
    have z4 := M7.out.res.frozen 4
    have o5 := M7.out.own.cell 5
    rw [show ([_, _, _, _, _, _] : List Value)[5]? = some _ from rfl] at o5
    have r5 := M7.out.res.cell 5
    rw [show ([_, _, _, _, _, _] : List Value)[5]? = some _ from rfl] at r5
    have z5 := M7.out.res.frozen 5
    have FIN := hid (fun v0 v1 v2 v3 v4 v5 => M7.out.fin6 (v0 := v0) (v1 := v1) (v2 := v2) (v3 := v3) (v4 := v4) (v5 := v5))
    clear M7
    go_wp2
    obtain ⟨g1, g2, g3⟩ := FIN.out (.int .i64 (k : Int)) (.int .i64 (u : Int)) (.int .i64 (0 : Int)) (.int .i64 (0 : Int)) (.int .i64 (x : Int)) (.int .i64 (y : Int))
    exact bodyPost_ret (results_array Try.results94 rfl g1 Try.underlying52 rfl size52) rfl ⟨rfl, g2, g3⟩
  · simp only [q1, q2, q3, q4, if_true, Bool.false_eq_true, if_false]
    simp only [q1, q2, q3, q4] at hnk
    clear q1 q2 q3 q4
    obtain ⟨u, su, hu⟩ : ∃ a b, pN 2147483647 s1 = (a, b) := ⟨_, _, rfl⟩
    have hfu := hid (HF1.out.num 2147483647)
    simp only [hu] at hfu ⊢
    have Ku : Hid (∀ (l : List Value) (W : World), St w W rb w.heap.size 52 [.int .i64 0, .int .i64 0, .int .i64 0, .int .i64 0, .int .i64 0, .int .i64 0] l s1 → Calls Try.prog 92 #[.pointer (some ⟨rb, 0, none⟩), .int .i64 2147483647] W fun e w' => e = .returned (.int .i64 (u : Int)) ∧ St w w' rb w.heap.size 52 [.int .i64 0, .int .i64 0, .int .i64 0, .int .i64 0, .int .i64 0, .int .i64 0] l su ∧ Only rb W w') := fun l W hS => by have h9 := hup.out l s1 W 2147483647 hS HF1.out (by omega); rw [hu] at h9; exact h9
    obtain ⟨t, st, ht⟩ : ∃ a b, pN 2147483647 su = (a, b) := ⟨_, _, rfl⟩
    have hft := hid (hfu.out.num 2147483647)
    simp only [ht] at hft ⊢
    have Kt : Hid (∀ (l : List Value) (W : World), St w W rb w.heap.size 52 [.int .i64 0, .int .i64 0, .int .i64 0, .int .i64 0, .int .i64 0, .int .i64 0] l su → Calls Try.prog 92 #[.pointer (some ⟨rb, 0, none⟩), .int .i64 2147483647] W fun e w' => e = .returned (.int .i64 (t : Int)) ∧ St w w' rb w.heap.size 52 [.int .i64 0, .int .i64 0, .int .i64 0, .int .i64 0, .int .i64 0, .int .i64 0] l st ∧ Only rb W w') := fun l W hS => by have h9 := hup.out l su W 2147483647 hS hfu.out (by omega); rw [ht] at h9; exact h9
    clear hup hk hu ht
    unfold C6.val cmd
    go_enter Try.func94, Try.ntmps94
    go_wp2_with fail
    refine Calls.mono hc1.out ?_
    rintro e w1 ⟨rfl, S1, O1⟩
    have c1 := S1.own.cell 0
    have f1 := S1.own.frozen 0
    rw [show ([_, _, _, _, _, _] : List Value)[0]? = some _ from rfl] at c1
    have S2 := hid (S1.set 0 (.int .i64 (k : Int)))
    simp only [List.set_cons_zero] at S2
    clear S1 O1 hc1
    go_wp2_with fail
    refine Calls.mono (hnk.out _) ?_
    rintro e w2 ⟨rfl, hb2⟩
    have S3 := S2.out.below hb2
    clear S2 hb2 c1 f1 hnk
    have S4 := hid (S3.below ((Below.refl w2.heap.size w2).alloc (Nat.le_refl _) (.cells ([Value.bool true, Value.bool true, Value.bool false, Value.bool false] : List Value).toArray 118)))
    have N4 : Hid (Blk (w2.alloc (.cells ([Value.bool true, Value.bool true, Value.bool false, Value.bool false] : List Value).toArray 118)) w2.heap.size [Value.bool true, Value.bool true, Value.bool false, Value.bool false] 118) := Blk.new _ _ _
    have hrN := hid (show rb ≠ w2.heap.size by have := S3.rd.lt; omega)
    have hoN := hid (show w2.heap.size ≠ w.heap.size + 1 by have := S3.own.lt; omega)
    have hNN := hid (show w.heap.size + 1 < w2.heap.size from S3.own.lt)
    clear S3
    go_wp2_with fail
    refine Calls.mono (Ku.out _ _ S4.out) ?_
    rintro e w5 ⟨rfl, S5, O5⟩
    obtain ⟨N, hN⟩ : ∃ N, N = w2.heap.size := ⟨_, rfl⟩
    rw [← hN] at N4 hrN hoN hNN
    simp only [← hN]
    clear hN
    have N5 := O5.blk N4.out (Ne.symm hrN.out)
    have c5 := S5.own.cell 1
    have f5 := S5.own.frozen 1
    rw [show ([_, _, _, _, _, _] : List Value)[1]? = some _ from rfl] at c5
    have M5 := hid (S5.set 1 (.int .i64 (u : Int)))
    simp only [List.set_cons_zero, List.set_cons_succ] at M5
    have P5 := hid (N5.set_ne ⟨w.heap.size + 1, 1, none⟩ hoN.out (.int .i64 (u : Int)))
    have n50 := P5.out.cell 0
    rw [show ([_, _, _, _] : List Value)[0]? = some _ from rfl] at n50
    have n51 := P5.out.cell 1
    rw [show ([_, _, _, _] : List Value)[1]? = some _ from rfl] at n51
    have n52 := P5.out.cell 2
    rw [show ([_, _, _, _] : List Value)[2]? = some _ from rfl] at n52
    have n53 := P5.out.cell 3
    rw [show ([_, _, _, _] : List Value)[3]? = some _ from rfl] at n53
    clear S4 O5 N4 S5 N5 Ku
    go_wp2_with fail
    refine Calls.mono (Kt.out _ _ M5.out) ?_
    rintro e w6 ⟨rfl, S6, O6⟩
    have N6 := O6.blk P5.out (Ne.symm hrN.out)
    have c6 := S6.own.cell 2
    have f6 := S6.own.frozen 2
    rw [show ([_, _, _, _, _, _] : List Value)[2]? = some _ from rfl] at c6
    have M6 := hid (S6.set 2 (.int .i64 (t : Int)))
    simp only [List.set_cons_zero, List.set_cons_succ] at M6
    have P6 := hid (N6.set_ne ⟨w.heap.size + 1, 2, none⟩ hoN.out (.int .i64 (t : Int)))
    have n60 := P6.out.cell 0
    rw [show ([_, _, _, _] : List Value)[0]? = some _ from rfl] at n60
    have n61 := P6.out.cell 1
    rw [show ([_, _, _, _] : List Value)[1]? = some _ from rfl] at n61
    have n62 := P6.out.cell 2
    rw [show ([_, _, _, _] : List Value)[2]? = some _ from rfl] at n62
    have n63 := P6.out.cell 3
    rw [show ([_, _, _, _] : List Value)[3]? = some _ from rfl] at n63
    clear M5 O6 P5 S6 N6 Kt c5 f5 n50 n51 n52 n53
    obtain ⟨X, hX⟩ : ∃ X, X = w6.setCell ⟨w.heap.size + 1, 2, none⟩ (.int .i64 (t : Int)) := ⟨_, rfl⟩
    go_upto_region 8 with (fail)
    rw [← hX]
    rw [← hX] at M6 P6 n60 n61 n62 n63
    clear hX c6 f6
    have o0 := M6.out.own.cell 0
    rw [show ([_, _, _, _, _, _] : List Value)[0]? = some _ from rfl] at o0
    have r0 := M6.out.res.cell 0
    rw [show ([_, _, _, _, _, _] : List Value)[0]? = some _ from rfl] at r0
    have z0 := M6.out.res.frozen 0
    have o1 := M6.out.own.cell 1
    rw [show ([_, _, _, _, _, _] : List Value)[1]? = some _ from rfl] at o1
    have r1 := M6.out.res.cell 1
    rw [show ([_, _, _, _, _, _] : List Value)[1]? = some _ from rfl] at r1
    have z1 := M6.out.res.frozen 1
    have o2 := M6.out.own.cell 2
    rw [show ([_, _, _, _, _, _] : List Value)[2]? = some _ from rfl] at o2
    have r2 := M6.out.res.cell 2
    rw [show ([_, _, _, _, _, _] : List Value)[2]? = some _ from rfl] at r2
    have z2 := M6.out.res.frozen 2
    have o3 := M6.out.own.cell 3
    rw [show ([_, _, _, _, _, _] : List Value)[3]? = some _ from rfl] at o3
    have r3 := M6.out.res.cell 3
    rw [show ([_, _, _, _, _, _] : List Value)[3]? = some _ from rfl] at r3
    have z3 := M6.out.res.frozen 3
    have o4 := M6.out.own.cell 4
    rw [show ([_, _, _, _, _, _] : List Value)[4]? = some _ from rfl] at o4
    have r4 := M6.out.res.cell 4
    rw [show ([_, _, _, _, _, _] : List Value)[4]? = some _ from rfl] at r4
    have z4 := M6.out.res.frozen 4
    have o5 := M6.out.own.cell 5
    rw [show ([_, _, _, _, _, _] : List Value)[5]? = some _ from rfl] at o5
    have r5 := M6.out.res.cell 5
    rw [show ([_, _, _, _, _, _] : List Value)[5]? = some _ from rfl] at r5
    have z5 := M6.out.res.frozen 5
    have FIN := hid (fun v0 v1 v2 v3 v4 v5 => M6.out.fin6 (v0 := v0) (v1 := v1) (v2 := v2) (v3 := v3) (v4 := v4) (v5 := v5))
    clear M6
    go_wp2
    obtain ⟨g1, g2, g3⟩ := FIN.out (.int .i64 (k : Int)) (.int .i64 (u : Int)) (.int .i64 (t : Int)) (.int .i64 (0 : Int)) (.int .i64 (0 : Int)) (.int .i64 (0 : Int))
    exact bodyPost_ret (results_array Try.results94 rfl g1 Try.underlying52 rfl size52) rfl ⟨rfl, g2, g3⟩
  · simp only [q1, q2, q3, q4, if_true, Bool.false_eq_true, if_false]
    simp only [q1, q2, q3, q4] at hnk
    clear q1 q2 q3 q4
    obtain ⟨u, su, hu⟩ : ∃ a b, pN 2147483647 s1 = (a, b) := ⟨_, _, rfl⟩
    have hfu := hid (HF1.out.num 2147483647)
    simp only [hu] at hfu ⊢
    have Ku : Hid (∀ (l : List Value) (W : World), St w W rb w.heap.size 52 [.int .i64 0, .int .i64 0, .int .i64 0, .int .i64 0, .int .i64 0, .int .i64 0] l s1 → Calls Try.prog 92 #[.pointer (some ⟨rb, 0, none⟩), .int .i64 2147483647] W fun e w' => e = .returned (.int .i64 (u : Int)) ∧ St w w' rb w.heap.size 52 [.int .i64 0, .int .i64 0, .int .i64 0, .int .i64 0, .int .i64 0, .int .i64 0] l su ∧ Only rb W w') := fun l W hS => by have h9 := hup.out l s1 W 2147483647 hS HF1.out (by omega); rw [hu] at h9; exact h9
    obtain ⟨h, sh, hh⟩ : ∃ a b, pN 4 su = (a, b) := ⟨_, _, rfl⟩
    have hfh := hid (hfu.out.num 4)
    simp only [hh] at hfh ⊢
    have Kh : Hid (∀ (l : List Value) (W : World), St w W rb w.heap.size 52 [.int .i64 0, .int .i64 0, .int .i64 0, .int .i64 0, .int .i64 0, .int .i64 0] l su → Calls Try.prog 92 #[.pointer (some ⟨rb, 0, none⟩), .int .i64 4] W fun e w' => e = .returned (.int .i64 (h : Int)) ∧ St w w' rb w.heap.size 52 [.int .i64 0, .int .i64 0, .int .i64 0, .int .i64 0, .int .i64 0, .int .i64 0] l sh ∧ Only rb W w') := fun l W hS => by have h9 := hup.out l su W 4 hS hfu.out (by omega); rw [hh] at h9; exact h9
    clear hup hk hu hh
    unfold C6.val cmd
    go_enter Try.func94, Try.ntmps94
    go_wp2_with fail
    refine Calls.mono hc1.out ?_
    rintro e w1 ⟨rfl, S1, O1⟩
    have c1 := S1.own.cell 0
    have f1 := S1.own.frozen 0
    rw [show ([_, _, _, _, _, _] : List Value)[0]? = some _ from rfl] at c1
    have S2 := hid (S1.set 0 (.int .i64 (k : Int)))
    simp only [List.set_cons_zero] at S2
    clear S1 O1 hc1
    go_wp2_with fail
    refine Calls.mono (hnk.out _) ?_
    rintro e w2 ⟨rfl, hb2⟩
    have S3 := S2.out.below hb2
    clear S2 hb2 c1 f1 hnk
    have S4 := hid (S3.below ((Below.refl w2.heap.size w2).alloc (Nat.le_refl _) (.cells ([Value.bool true, Value.bool false, Value.bool true, Value.bool false] : List Value).toArray 118)))
    have N4 : Hid (Blk (w2.alloc (.cells ([Value.bool true, Value.bool false, Value.bool true, Value.bool false] : List Value).toArray 118)) w2.heap.size [Value.bool true, Value.bool false, Value.bool true, Value.bool false] 118) := Blk.new _ _ _
    have hrN := hid (show rb ≠ w2.heap.size by have := S3.rd.lt; omega)
    have hoN := hid (show w2.heap.size ≠ w.heap.size + 1 by have := S3.own.lt; omega)
    have hNN := hid (show w.heap.size + 1 < w2.heap.size from S3.own.lt)
    clear S3
    go_wp2_with fail
    refine Calls.mono (Ku.out _ _ S4.out) ?_
    rintro e w5 ⟨rfl, S5, O5⟩
    obtain ⟨N, hN⟩ : ∃ N, N = w2.heap.size := ⟨_, rfl⟩
    rw [← hN] at N4 hrN hoN hNN
    simp only [← hN]
    clear hN
    have N5 := O5.blk N4.out (Ne.symm hrN.out)
    have c5 := S5.own.cell 1
    have f5 := S5.own.frozen 1
    rw [show ([_, _, _, _, _, _] : List Value)[1]? = some _ from rfl] at c5
    have M5 := hid (S5.set 1 (.int .i64 (u : Int)))
    simp only [List.set_cons_zero, List.set_cons_succ] at M5
    have P5 := hid (N5.set_ne ⟨w.heap.size + 1, 1, none⟩ hoN.out (.int .i64 (u : Int)))
    have n50 := P5.out.cell 0
    rw [show ([_, _, _, _] : List Value)[0]? = some _ from rfl] at n50
    have n51 := P5.out.cell 1
    rw [show ([_, _, _, _] : List Value)[1]? = some _ from rfl] at n51
    have n52 := P5.out.cell 2
    rw [show ([_, _, _, _] : List Value)[2]? = some _ from rfl] at n52
    have n53 := P5.out.cell 3
    rw [show ([_, _, _, _] : List Value)[3]? = some _ from rfl] at n53
    clear S4 O5 N4 S5 N5 Ku
    go_wp2_with fail
    refine Calls.mono (Kh.out _ _ M5.out) ?_
    rintro e w6 ⟨rfl, S6, O6⟩
    have N6 := O6.blk P5.out (Ne.symm hrN.out)
    have c6 := S6.own.cell 3
    have f6 := S6.own.frozen 3
    rw [show ([_, _, _, _, _, _] : List Value)[3]? = some _ from rfl] at c6
    have M6 := hid (S6.set 3 (.int .i64 (h : Int)))
    simp only [List.set_cons_zero, List.set_cons_succ] at M6
    have P6 := hid (N6.set_ne ⟨w.heap.size + 1, 3, none⟩ hoN.out (.int .i64 (h : Int)))
    have n60 := P6.out.cell 0
    rw [show ([_, _, _, _] : List Value)[0]? = some _ from rfl] at n60
    have n61 := P6.out.cell 1
    rw [show ([_, _, _, _] : List Value)[1]? = some _ from rfl] at n61
    have n62 := P6.out.cell 2
    rw [show ([_, _, _, _] : List Value)[2]? = some _ from rfl] at n62
    have n63 := P6.out.cell 3
    rw [show ([_, _, _, _] : List Value)[3]? = some _ from rfl] at n63
    clear M5 O6 P5 S6 N6 Kh c5 f5 n50 n51 n52 n53
    obtain ⟨X, hX⟩ : ∃ X, X = w6.setCell ⟨w.heap.size + 1, 3, none⟩ (.int .i64 (h : Int)) := ⟨_, rfl⟩
    go_upto_region 10 with (fail)
    rw [← hX]
    rw [← hX] at M6 P6 n60 n61 n62 n63
    clear hX c6 f6
    have o0 := M6.out.own.cell 0
    rw [show ([_, _, _, _, _, _] : List Value)[0]? = some _ from rfl] at o0
    have r0 := M6.out.res.cell 0
    rw [show ([_, _, _, _, _, _] : List Value)[0]? = some _ from rfl] at r0
    have z0 := M6.out.res.frozen 0
    have o1 := M6.out.own.cell 1
    rw [show ([_, _, _, _, _, _] : List Value)[1]? = some _ from rfl] at o1
    have r1 := M6.out.res.cell 1
    rw [show ([_, _, _, _, _, _] : List Value)[1]? = some _ from rfl] at r1
    have z1 := M6.out.res.frozen 1
    have o2 := M6.out.own.cell 2
    rw [show ([_, _, _, _, _, _] : List Value)[2]? = some _ from rfl] at o2
    have r2 := M6.out.res.cell 2
    rw [show ([_, _, _, _, _, _] : List Value)[2]? = some _ from rfl] at r2
    have z2 := M6.out.res.frozen 2
    have o3 := M6.out.own.cell 3
    rw [show ([_, _, _, _, _, _] : List Value)[3]? = some _ from rfl] at o3
    have r3 := M6.out.res.cell 3
    rw [show ([_, _, _, _, _, _] : List Value)[3]? = some _ from rfl] at r3
    have z3 := M6.out.res.frozen 3
    have o4 := M6.out.own.cell 4
    rw [show ([_, _, _, _, _, _] : List Value)[4]? = some _ from rfl] at o4
    have r4 := M6.out.res.cell 4
    rw [show ([_, _, _, _, _, _] : List Value)[4]? = some _ from rfl] at r4
    have z4 := M6.out.res.frozen 4
    have o5 := M6.out.own.cell 5
    rw [show ([_, _, _, _, _, _] : List Value)[5]? = some _ from rfl] at o5
    have r5 := M6.out.res.cell 5
    rw [show ([_, _, _, _, _, _] : List Value)[5]? = some _ from rfl] at r5
    have z5 := M6.out.res.frozen 5
    have FIN := hid (fun v0 v1 v2 v3 v4 v5 => M6.out.fin6 (v0 := v0) (v1 := v1) (v2 := v2) (v3 := v3) (v4 := v4) (v5 := v5))
    clear M6
    go_wp2
    obtain ⟨g1, g2, g3⟩ := FIN.out (.int .i64 (k : Int)) (.int .i64 (u : Int)) (.int .i64 (0 : Int)) (.int .i64 (h : Int)) (.int .i64 (0 : Int)) (.int .i64 (0 : Int))
    exact bodyPost_ret (results_array Try.results94 rfl g1 Try.underlying52 rfl size52) rfl ⟨rfl, g2, g3⟩
  · simp only [q1, q2, q3, q4, if_true, Bool.false_eq_true, if_false]
    simp only [q1, q2, q3, q4] at hnk
    clear q1 q2 q3 q4
    obtain ⟨u, su, hu⟩ : ∃ a b, pN 2147483647 s1 = (a, b) := ⟨_, _, rfl⟩
    have hfu := hid (HF1.out.num 2147483647)
    simp only [hu] at hfu ⊢
    have Ku : Hid (∀ (l : List Value) (W : World), St w W rb w.heap.size 52 [.int .i64 0, .int .i64 0, .int .i64 0, .int .i64 0, .int .i64 0, .int .i64 0] l s1 → Calls Try.prog 92 #[.pointer (some ⟨rb, 0, none⟩), .int .i64 2147483647] W fun e w' => e = .returned (.int .i64 (u : Int)) ∧ St w w' rb w.heap.size 52 [.int .i64 0, .int .i64 0, .int .i64 0, .int .i64 0, .int .i64 0, .int .i64 0] l su ∧ Only rb W w') := fun l W hS => by have h9 := hup.out l s1 W 2147483647 hS HF1.out (by omega); rw [hu] at h9; exact h9
    clear hup hk hu
    unfold C6.val cmd
    go_enter Try.func94, Try.ntmps94
    go_wp2_with fail
    refine Calls.mono hc1.out ?_
    rintro e w1 ⟨rfl, S1, O1⟩
    have c1 := S1.own.cell 0
    have f1 := S1.own.frozen 0
    rw [show ([_, _, _, _, _, _] : List Value)[0]? = some _ from rfl] at c1
    have S2 := hid (S1.set 0 (.int .i64 (k : Int)))
    simp only [List.set_cons_zero] at S2
    clear S1 O1 hc1
    go_wp2_with fail
    refine Calls.mono (hnk.out _) ?_
    rintro e w2 ⟨rfl, hb2⟩
    have S3 := S2.out.below hb2
    clear S2 hb2 c1 f1 hnk
    have S4 := hid (S3.below ((Below.refl w2.heap.size w2).alloc (Nat.le_refl _) (.cells ([Value.bool true, Value.bool false, Value.bool false, Value.bool false] : List Value).toArray 118)))
    have N4 : Hid (Blk (w2.alloc (.cells ([Value.bool true, Value.bool false, Value.bool false, Value.bool false] : List Value).toArray 118)) w2.heap.size [Value.bool true, Value.bool false, Value.bool false, Value.bool false] 118) := Blk.new _ _ _
    have hrN := hid (show rb ≠ w2.heap.size by have := S3.rd.lt; omega)
    have hoN := hid (show w2.heap.size ≠ w.heap.size + 1 by have := S3.own.lt; omega)
    have hNN := hid (show w.heap.size + 1 < w2.heap.size from S3.own.lt)
    clear S3
    go_wp2_with fail
    refine Calls.mono (Ku.out _ _ S4.out) ?_
    rintro e w5 ⟨rfl, S5, O5⟩
    obtain ⟨N, hN⟩ : ∃ N, N = w2.heap.size := ⟨_, rfl⟩
    rw [← hN] at N4 hrN hoN hNN
    simp only [← hN]
    clear hN
    have N5 := O5.blk N4.out (Ne.symm hrN.out)
    have c5 := S5.own.cell 1
    have f5 := S5.own.frozen 1
    rw [show ([_, _, _, _, _, _] : List Value)[1]? = some _ from rfl] at c5
    have M5 := hid (S5.set 1 (.int .i64 (u : Int)))
    simp only [List.set_cons_zero, List.set_cons_succ] at M5
    have P5 := hid (N5.set_ne ⟨w.heap.size + 1, 1, none⟩ hoN.out (.int .i64 (u : Int)))
    have n50 := P5.out.cell 0
    rw [show ([_, _, _, _] : List Value)[0]? = some _ from rfl] at n50
    have n51 := P5.out.cell 1
    rw [show ([_, _, _, _] : List Value)[1]? = some _ from rfl] at n51
    have n52 := P5.out.cell 2
    rw [show ([_, _, _, _] : List Value)[2]? = some _ from rfl] at n52
    have n53 := P5.out.cell 3
    rw [show ([_, _, _, _] : List Value)[3]? = some _ from rfl] at n53
    clear S4 O5 N4 S5 N5 Ku
    obtain ⟨X, hX⟩ : ∃ X, X = w5.setCell ⟨w.heap.size + 1, 1, none⟩ (.int .i64 (u : Int)) := ⟨_, rfl⟩
    go_upto_region 6 with (fail)
    rw [← hX]
    rw [← hX] at M5 P5 n50 n51 n52 n53
    clear hX c5 f5
    have o0 := M5.out.own.cell 0
    rw [show ([_, _, _, _, _, _] : List Value)[0]? = some _ from rfl] at o0
    have r0 := M5.out.res.cell 0
    rw [show ([_, _, _, _, _, _] : List Value)[0]? = some _ from rfl] at r0
    have z0 := M5.out.res.frozen 0
    have o1 := M5.out.own.cell 1
    rw [show ([_, _, _, _, _, _] : List Value)[1]? = some _ from rfl] at o1
    have r1 := M5.out.res.cell 1
    rw [show ([_, _, _, _, _, _] : List Value)[1]? = some _ from rfl] at r1
    have z1 := M5.out.res.frozen 1
    have o2 := M5.out.own.cell 2
    rw [show ([_, _, _, _, _, _] : List Value)[2]? = some _ from rfl] at o2
    have r2 := M5.out.res.cell 2
    rw [show ([_, _, _, _, _, _] : List Value)[2]? = some _ from rfl] at r2
    have z2 := M5.out.res.frozen 2
    have o3 := M5.out.own.cell 3
    rw [show ([_, _, _, _, _, _] : List Value)[3]? = some _ from rfl] at o3
    have r3 := M5.out.res.cell 3
    rw [show ([_, _, _, _, _, _] : List Value)[3]? = some _ from rfl] at r3
    have z3 := M5.out.res.frozen 3
    have o4 := M5.out.own.cell 4
    rw [show ([_, _, _, _, _, _] : List Value)[4]? = some _ from rfl] at o4
    have r4 := M5.out.res.cell 4
    rw [show ([_, _, _, _, _, _] : List Value)[4]? = some _ from rfl] at r4
    have z4 := M5.out.res.frozen 4
    have o5 := M5.out.own.cell 5
    rw [show ([_, _, _, _, _, _] : List Value)[5]? = some _ from rfl] at o5
    have r5 := M5.out.res.cell 5
    rw [show ([_, _, _, _, _, _] : List Value)[5]? = some _ from rfl] at r5
    have z5 := M5.out.res.frozen 5
    have FIN := hid (fun v0 v1 v2 v3 v4 v5 => M5.out.fin6 (v0 := v0) (v1 := v1) (v2 := v2) (v3 := v3) (v4 := v4) (v5 := v5))
    clear M5
    go_wp2
    obtain ⟨g1, g2, g3⟩ := FIN.out (.int .i64 (k : Int)) (.int .i64 (u : Int)) (.int .i64 (0 : Int)) (.int .i64 (0 : Int)) (.int .i64 (0 : Int)) (.int .i64 (0 : Int))
    exact bodyPost_ret (results_array Try.results94 rfl g1 Try.underlying52 rfl size52) rfl ⟨rfl, g2, g3⟩
  · simp only [q1, q2, q3, q4, Bool.false_eq_true, if_false]
    simp only [q1, q2, q3, q4] at hnk
    clear q1 q2 q3 q4
    clear hup hk
    unfold C6.val cmd
    go_enter Try.func94, Try.ntmps94
    go_wp2_with fail
    refine Calls.mono hc1.out ?_
    rintro e w1 ⟨rfl, S1, O1⟩
    have c1 := S1.own.cell 0
    have f1 := S1.own.frozen 0
    rw [show ([_, _, _, _, _, _] : List Value)[0]? = some _ from rfl] at c1
    have S2 := hid (S1.set 0 (.int .i64 (k : Int)))
    simp only [List.set_cons_zero] at S2
    clear S1 O1 hc1
    go_wp2_with fail
    refine Calls.mono (hnk.out _) ?_
    rintro e w2 ⟨rfl, hb2⟩
    have S3 := S2.out.below hb2
    clear S2 hb2 c1 f1 hnk
    have S4 := hid (S3.below ((Below.refl w2.heap.size w2).alloc (Nat.le_refl _) (.cells ([Value.bool false, Value.bool false, Value.bool false, Value.bool false] : List Value).toArray 118)))
    have N4 : Hid (Blk (w2.alloc (.cells ([Value.bool false, Value.bool false, Value.bool false, Value.bool false] : List Value).toArray 118)) w2.heap.size [Value.bool false, Value.bool false, Value.bool false, Value.bool false] 118) := Blk.new _ _ _
    have hrN := hid (show rb ≠ w2.heap.size by have := S3.rd.lt; omega)
    have hoN := hid (show w2.heap.size ≠ w.heap.size + 1 by have := S3.own.lt; omega)
    have hNN := hid (show w.heap.size + 1 < w2.heap.size from S3.own.lt)
    clear S3
    have n0 := N4.out.cell 0
    obtain ⟨X, hX⟩ : ∃ X, X = w2.alloc (.cells ([Value.bool false, Value.bool false, Value.bool false, Value.bool false] : List Value).toArray 118) := ⟨_, rfl⟩
    go_upto_region 13 with (fail)
    rw [show w2.alloc _ = X from hX.symm]
    rw [← hX] at S4
    clear hX n0 N4
    have o0 := S4.out.own.cell 0
    rw [show ([_, _, _, _, _, _] : List Value)[0]? = some _ from rfl] at o0
    have r0 := S4.out.res.cell 0
    rw [show ([_, _, _, _, _, _] : List Value)[0]? = some _ from rfl] at r0
    have z0 := S4.out.res.frozen 0
    have o1 := S4.out.own.cell 1
    rw [show ([_, _, _, _, _, _] : List Value)[1]? = some _ from rfl] at o1
    have r1 := S4.out.res.cell 1
    rw [show ([_, _, _, _, _, _] : List Value)[1]? = some _ from rfl] at r1
    have z1 := S4.out.res.frozen 1
    have o2 := S4.out.own.cell 2
    rw [show ([_, _, _, _, _, _] : List Value)[2]? = some _ from rfl] at o2
    have r2 := S4.out.res.cell 2
    rw [show ([_, _, _, _, _, _] : List Value)[2]? = some _ from rfl] at r2
    have z2 := S4.out.res.frozen 2
    have o3 := S4.out.own.cell 3
    rw [show ([_, _, _, _, _, _] : List Value)[3]? = some _ from rfl] at o3
    have r3 := S4.out.res.cell 3
    rw [show ([_, _, _, _, _, _] : List Value)[3]? = some _ from rfl] at r3
    have z3 := S4.out.res.frozen 3
    have o4 := S4.out.own.cell 4
    rw [show ([_, _, _, _, _, _] : List Value)[4]? = some _ from rfl] at o4
    have r4 := S4.out.res.cell 4
    rw [show ([_, _, _, _, _, _] : List Value)[4]? = some _ from rfl] at r4
    have z4 := S4.out.res.frozen 4
    have o5 := S4.out.own.cell 5
    rw [show ([_, _, _, _, _, _] : List Value)[5]? = some _ from rfl] at o5
    have r5 := S4.out.res.cell 5
    rw [show ([_, _, _, _, _, _] : List Value)[5]? = some _ from rfl] at r5
    have z5 := S4.out.res.frozen 5
    have FIN := hid (fun v0 v1 v2 v3 v4 v5 => S4.out.fin6 (v0 := v0) (v1 := v1) (v2 := v2) (v3 := v3) (v4 := v4) (v5 := v5))
    clear S4
    go_wp2
    obtain ⟨g1, g2, g3⟩ := FIN.out (.int .i64 (k : Int)) (.int .i64 (0 : Int)) (.int .i64 (0 : Int)) (.int .i64 (0 : Int)) (.int .i64 (0 : Int)) (.int .i64 (0 : Int))
    exact bodyPost_ret (results_array Try.results94 rfl g1 Try.underlying52 rfl size52) rfl ⟨rfl, g2, g3⟩
end Go.Proofs.Ytpiflgbcbhnmpaa
