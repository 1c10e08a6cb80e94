/- What blockFormed and the reader's block answer. -/
import Derived.Test.YtpiflgbcbhnmpaaAllS
namespace Go.Proofs.Ytpiflgbcbhnmpaa
open Go.RowKit
/-- The cells of a block. -/
def bkL (t : Int) (a b c : List Value) (v : Value) : List Value := .int .i64 t :: (a ++ (b ++ (c ++ [v])))
def z39 : List Value := bkL 0 (zB 32) (zB 32) (zB 32) (.slice none 0 0)
theorem zv39 (w : World) : (zeroValue 39).run Try.prog w = .ok (.agg z39.toArray) w := by
  have e : z39.toArray = Try.zeroCells39 := by unfold z39 bkL; rw [zB_eq]; rfl
  rw [e]; exact Try.zeroValue39 w
theorem size39 : (Try.prog.info? 39).map (·.size) = some 98 := by kernel_rfl
attribute [local go_sem ↓] zv39
theorem bkL_length (t : Int) (a b c : List Value) (v : Value) (ha : a.length = 32) (hb : b.length = 32) (hc : c.length = 32) : (bkL t a b c v).length = 98 := by simp [bkL, ha, hb, hc]
theorem bkL_over1 (t : Int) (a b c : List Value) (v : Value) (ha : a.length = 32) (x : List Value) (hx : x.length = 32) : over (bkL t a b c v) 1 x = bkL t x b c v := by
  unfold over bkL
  simp [ha, hx]
theorem bkL_over33 (t : Int) (a b c : List Value) (v : Value) (ha : a.length = 32) (hb : b.length = 32) (x : List Value) (hx : x.length = 32) : over (bkL t a b c v) 33 x = bkL t a x c v := by
  unfold over bkL
  simp [ha, hb, hx, List.drop_append]
theorem bkL_over65 (t : Int) (a b c : List Value) (v : Value) (ha : a.length = 32) (hb : b.length = 32) (hc : c.length = 32) (x : List Value) (hx : x.length = 32) : over (bkL t a b c v) 65 x = bkL t a b x v := by
  unfold over bkL
  simp [ha, hb, hc, hx, List.take_append, List.drop_append]
  rw [List.take_of_length_le (show a.length ≤ 64 by omega), List.drop_eq_nil_of_le (show a.length ≤ 96 by omega), List.drop_eq_nil_of_le (show b.length ≤ 64 by omega)]
  rfl
theorem bkL_set97 (t : Int) (a b c : List Value) (v : Value) (ha : a.length = 32) (hb : b.length = 32) (hc : c.length = 32) (x : Value) : (bkL t a b c v).set 97 x = bkL t a b c x := by
  unfold bkL
  rw [List.set_cons_succ, List.set_append_right _ _ (by omega), List.set_append_right _ _ (by omega), List.set_append_right _ _ (by omega)]
  simp [ha, hb, hc]
theorem bkL_get97 (t : Int) (a b c : List Value) (v : Value) (ha : a.length = 32) (hb : b.length = 32) (hc : c.length = 32) : (bkL t a b c v)[97]? = some v := by
  unfold bkL
  rw [List.getElem?_cons_succ, List.getElem?_append_right (by omega), List.getElem?_append_right (by omega), List.getElem?_append_right (by omega)]
  simp [ha, hb, hc]
theorem bkL_set0 (t x : Int) (a b c : List Value) (v : Value) : (bkL t a b c v).set 0 (.int .i64 x) = bkL x a b c v := rfl
/-- A block. -/
structure Bk where
  tn : Int
  pv : List Nat
  rt : List Nat
  st : List Nat
  ds : List Sd
def Bk.cells (k : Bk) (v : Value) : List Value := bkL k.tn (k.pv.map By) (k.rt.map By) (k.st.map By) v
def Bk.ok (k : Bk) : Bool := rng k.tn 59 && decide (0 < k.ds.length) && sdsOk k.ds
structure BkFit (k : Bk) : Prop where
  p : k.pv.length = 32
  r : k.rt.length = 32
  s : k.st.length = 32
  d : SdsFit k.ds
set_option maxRecDepth 100000 in
set_option maxHeartbeats 4000000 in
theorem blockFormed60 (k : Bk) (hk : BkFit k) (p : Option Addr) (N cap : Nat) (w : World) (hN : N = k.ds.length) (h : SdsAt w (.slice p N cap) k.ds) (hsz : N < 1000000000) :
    Calls Try.prog 60 #[.agg (k.cells (.slice p N cap)).toArray] w fun e w' => e = .returned (.bool k.ok) ∧ Below w.heap.size w w' := by
  have hw : Hid (∀ a b W, Calls Try.prog 82 #[.int .i64 a, .int .i64 b] W fun e w' => e = .returned (.bool (rng a b)) ∧ w' = W) := fun a b W => within_any a b W
  have hB := Blk.new w (k.cells (.slice p N cap)) 39
  have hbe : Below w.heap.size w (w.alloc (.cells (k.cells (.slice p N cap)).toArray 39)) := (Below.refl _ _).alloc (Nat.le_refl _) _
  have hA : Hid (∀ W, Below w.heap.size w W → Calls Try.prog 89 #[.slice p N cap, .int .i64 4, .func (.func 51) #[] #[]] W fun e w' => e = .returned (.bool (sdsOk k.ds)) ∧ Below W.heap.size W w') := fun W hb => allFormed89 k.ds hk.d p N cap W hN (h.below hb) hsz
  have c0 := hB.cell 0
  have c4 := hB.cell 97
  rw [show (k.cells (.slice p N cap))[0]? = some (.int .i64 k.tn) from rfl] at c0
  rw [show (k.cells (.slice p N cap))[97]? = some (.slice p N cap) from bkL_get97 _ _ _ _ _ (by simp [hk.p]) (by simp [hk.r]) (by simp [hk.s])] at c4
  unfold Bk.ok
  have hNl : k.ds.length = N := hN.symm
  rw [hNl]
  generalize sdsOk k.ds = qa at *
  have HBE := hid hbe
  obtain ⟨X, hX⟩ : ∃ X, X = k.cells (.slice p N cap) := ⟨_, rfl⟩
  rw [← hX] at c0 c4 HBE ⊢
  obtain ⟨tn, pv, rt, st, ds⟩ := k
  simp only at c0 hNl ⊢
  clear h hN hB hbe hX hNl hk
  rcases a2 : rng tn 59 with _ | _
  · go_enter Try.func60, Try.ntmps60
    go_wp2_with (go_at_call 82; refine Calls.mono (hw.out _ _ _) ?_; rintro e w2 ⟨rfl, rfl⟩)
    go_ret
    exact ⟨rfl, HBE.out⟩
  · rcases Nat.eq_zero_or_pos N with hN0 | hN0
    · subst hN0
      go_enter Try.func60, Try.ntmps60
      go_wp2_with (go_at_call 82; refine Calls.mono (hw.out _ _ _) ?_; rintro e w2 ⟨rfl, rfl⟩)
      go_ret
      exact ⟨rfl, HBE.out⟩
    · have b2 : (0 : Int) < (N : Int) := by omega
      rw [show decide (0 < N) = true from decide_eq_true hN0]
      go_enter Try.func60, Try.ntmps60
      go_wp2_with (first
        | (go_at_call 82; refine Calls.mono (hw.out _ _ _) ?_; rintro e w2 ⟨rfl, rfl⟩)
        | (go_at_call 89; refine Calls.mono (hA.out _ HBE.out) ?_; rintro e w3 ⟨rfl, hb3⟩))
      go_ret
      exact ⟨rfl, HBE.out.trans (hb3.mono HBE.out.size)⟩
end Go.Proofs.Ytpiflgbcbhnmpaa
