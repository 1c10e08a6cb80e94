/- The law of order. -/
import Derived.Test.YtdfobaggdeoggaaQuot
import Derived.Test.YtdfobaggdeoggaaAwake
namespace Go.Proofs.Ytdfobaggdeoggaa
open Go.RowKit
theorem mulV_eq (a b : Int) : mulV a b = hold (a * b / 4294967296) := by
  unfold mulV heldV
  congr 1
  have hn : ((a.natAbs * b.natAbs : Nat) : Int) = (a.natAbs : Int) * (b.natAbs : Int) := by simp
  generalize hN : a.natAbs * b.natAbs = N at *
  have key : ∀ X : Int, X = (N : Int) → X / 4294967296 = ((N / 4294967296 : Nat) : Int) := fun X h => by subst h; omega
  have key2 : ∀ X : Int, X = -(N : Int) → X / 4294967296 = -((N / 4294967296 : Nat) : Int) - (if (decide (N % 4294967296 ≠ 0)) = true then 1 else 0) := fun X h => by
    subst h
    by_cases h0 : N % 4294967296 = 0
    · rw [if_neg (by simp [h0])]; omega
    · rw [if_pos (by simp [h0])]; omega
  rcases Int.lt_or_le a 0 with ha | ha <;> rcases Int.lt_or_le b 0 with hb | hb
  · have e : a * b = (N : Int) := by
      rw [hn, show (a.natAbs : Int) = -a by omega, show (b.natAbs : Int) = -b by omega, Int.neg_mul_neg]
    rw [key _ e]; simp [ha, hb]
  · have e : a * b = -(N : Int) := by
      rw [hn, show (a.natAbs : Int) = -a by omega, show (b.natAbs : Int) = b by omega, Int.neg_mul, Int.neg_neg]
    rw [key2 _ e]; rw [if_pos (by simp [ha]; omega)]
  · have e : a * b = -(N : Int) := by
      rw [hn, show (a.natAbs : Int) = a by omega, show (b.natAbs : Int) = -b by omega, Int.mul_neg, Int.neg_neg]
    rw [key2 _ e]; rw [if_pos (by simp [hb]; omega)]
  · have e : a * b = (N : Int) := by
      rw [hn, show (a.natAbs : Int) = a by omega, show (b.natAbs : Int) = b by omega]
    rw [key _ e]; rw [if_neg (by simp; omega)]
theorem hold_mono {x y : Int} (h : x ≤ y) : hold x ≤ hold y := by
  unfold hold; (repeat' split) <;> omega
theorem hold_self {x : Int} (h : I64 x) : hold x = x := by
  obtain ⟨h1, h2⟩ := h
  unfold hold; rw [if_neg (by omega), if_neg (by omega)]
theorem mulV_comm (a b : Int) : mulV a b = mulV b a := by rw [mulV_eq, mulV_eq, Int.mul_comm]
theorem mulV_one (a : Int) (h : I64 a) : mulV a 4294967296 = a := by rw [mulV_eq, Int.mul_ediv_cancel _ (by omega), hold_self h]
theorem mulV_mono {a b c : Int} (ha : 0 ≤ a) (h : b ≤ c) : mulV a b ≤ mulV a c := by
  rw [mulV_eq, mulV_eq]
  exact hold_mono (Int.ediv_le_ediv (by omega) (Int.mul_le_mul_of_nonneg_left h ha))
theorem eqOut {f : FuncId} {args : Array Value} {x y : Int} (h : x = y) (k : ∀ W, Calls Try.prog f args W fun e w' => OutI W x e w') : Hid (∀ W, Calls Try.prog f args W fun e w' => OutI W y e w') := by subst h; exact k
set_option maxRecDepth 100000 in
set_option maxHeartbeats 2000000 in
theorem order_walk (a b c : Int) (ha : I64 a) (hb : I64 b) (hc : I64 c) (w : World) : Calls Try.prog 7 #[.int .i64 a, .int .i64 b, .int .i64 c] w fun e w' => OutT w e w' := by
  have h9 : Hid (∀ W, Calls Try.prog 9 #[] W fun e w' => OutT W e w') := awake_any
  have i0 : I64 0 := ⟨by omega, by omega⟩
  have i1 : I64 4294967296 := ⟨by omega, by omega⟩
  obtain ⟨s1, es1⟩ : ∃ s, hold (a + b) = s := ⟨_, rfl⟩
  obtain ⟨s2, es2⟩ : ∃ s, hold (a + c) = s := ⟨_, rfl⟩
  obtain ⟨d1, ed1⟩ : ∃ s, hold (a - b) = s := ⟨_, rfl⟩
  obtain ⟨d2, ed2⟩ : ∃ s, hold (a - c) = s := ⟨_, rfl⟩
  obtain ⟨m1, em1⟩ : ∃ s, mulV a b = s := ⟨_, rfl⟩
  obtain ⟨m2, em2⟩ : ∃ s, mulV a c = s := ⟨_, rfl⟩
  obtain ⟨f1, ef1⟩ : ∃ s, b / 4294967296 = s := ⟨_, rfl⟩
  obtain ⟨f2, ef2⟩ : ∃ s, c / 4294967296 = s := ⟨_, rfl⟩
  obtain ⟨o1, eo1⟩ : ∃ s, hold (b * 4294967296) = s := ⟨_, rfl⟩
  obtain ⟨o2, eo2⟩ : ∃ s, hold (c * 4294967296) = s := ⟨_, rfl⟩
  have kab := eqOut es1 (add_any a b ha hb)
  have kba := eqOut (y := s1) (by rw [Int.add_comm]; exact es1) (add_any b a hb ha)
  have ka0 := eqOut (by rw [Int.add_zero, hold_self ha]) (add_any a 0 ha i0)
  have kac := eqOut es2 (add_any a c ha hc)
  have jab := eqOut ed1 (sub_any a b ha hb)
  have jac := eqOut ed2 (sub_any a c ha hc)
  have jaa := eqOut (by rw [Int.sub_self, hold_self i0]) (sub_any a a ha ha)
  have mab := eqOut em1 (mul_any a b ha hb)
  have mba := eqOut (y := m1) (by rw [mulV_comm]; exact em1) (mul_any b a hb ha)
  have ma1 := eqOut (mulV_one a ha) (mul_any a 4294967296 ha i1)
  have mac := eqOut em2 (mul_any a c ha hc)
  have flb := eqOut ef1 (floor_any b hb)
  have flc := eqOut ef2 (floor_any c hc)
  have ofb := eqOut eo1 (of_any b hb)
  have ofc := eqOut eo2 (of_any c hc)
  have hall : b ≤ c → s1 ≤ s2 ∧ d2 ≤ d1 ∧ f1 ≤ f2 ∧ o1 ≤ o2 ∧ (0 ≤ a → m1 ≤ m2) := fun h => by
    subst es1 es2 ed1 ed2 em1 em2 ef1 ef2 eo1 eo2
    exact ⟨hold_mono (by omega), hold_mono (by omega), Int.ediv_le_ediv (by omega) h, hold_mono (by omega), fun h0 => mulV_mono h0 h⟩
  clear es1 es2 ed1 ed2 em1 em2 ef1 ef2 eo1 eo2 ha hb hc i0 i1
  have hbw : Below w.heap.size w w := Below.refl _ _
  have HB : Hid (Below w.heap.size w w) := hbw
  clear hbw
  have hcase : (c < b) ∨ (b ≤ c ∧ a < 0) ∨ (b ≤ c ∧ 0 ≤ a) := by omega
  rcases hcase with hbc | ⟨hbc, ha0⟩ | ⟨hbc, ha0⟩
  · clear hall
    go_enter Try.func7, Try.ntmps7
    go_wp2_with (first
      | (go_at_call 9; (first | (with_reducible refine Calls.mono (h9.out _) ?_)); rintro e w1 ⟨rfl, hb1⟩; replace HB := hid (HB.out.trans (hb1.mono HB.out.size)); clear hb1)
      | (go_at_call 14; (first | (with_reducible refine Calls.mono (kab.out _) ?_) | (with_reducible refine Calls.mono (kba.out _) ?_) | (with_reducible refine Calls.mono (ka0.out _) ?_) | (with_reducible refine Calls.mono (kac.out _) ?_)); rintro e w1 ⟨rfl, hb1⟩; replace HB := hid (HB.out.trans (hb1.mono HB.out.size)); clear hb1)
      | (go_at_call 20; (first | (with_reducible refine Calls.mono (mab.out _) ?_) | (with_reducible refine Calls.mono (mba.out _) ?_) | (with_reducible refine Calls.mono (ma1.out _) ?_) | (with_reducible refine Calls.mono (mac.out _) ?_)); rintro e w1 ⟨rfl, hb1⟩; replace HB := hid (HB.out.trans (hb1.mono HB.out.size)); clear hb1)
      | (go_at_call 16; (first | (with_reducible refine Calls.mono (jab.out _) ?_) | (with_reducible refine Calls.mono (jac.out _) ?_) | (with_reducible refine Calls.mono (jaa.out _) ?_)); rintro e w1 ⟨rfl, hb1⟩; replace HB := hid (HB.out.trans (hb1.mono HB.out.size)); clear hb1)
      | (go_at_call 12; (first | (with_reducible refine Calls.mono (flb.out _) ?_) | (with_reducible refine Calls.mono (flc.out _) ?_)); rintro e w1 ⟨rfl, hb1⟩; replace HB := hid (HB.out.trans (hb1.mono HB.out.size)); clear hb1)
      | (go_at_call 10; (first | (with_reducible refine Calls.mono (ofb.out _) ?_) | (with_reducible refine Calls.mono (ofc.out _) ?_)); rintro e w1 ⟨rfl, hb1⟩; replace HB := hid (HB.out.trans (hb1.mono HB.out.size)); clear hb1))
    go_ret
    exact ⟨rfl, HB.out⟩
  · obtain ⟨g1, g2, g3, g4, g5⟩ := hall hbc
    clear hall g5
    go_enter Try.func7, Try.ntmps7
    go_wp2_with (first
      | (go_at_call 9; (first | (with_reducible refine Calls.mono (h9.out _) ?_)); rintro e w1 ⟨rfl, hb1⟩; replace HB := hid (HB.out.trans (hb1.mono HB.out.size)); clear hb1)
      | (go_at_call 14; (first | (with_reducible refine Calls.mono (kab.out _) ?_) | (with_reducible refine Calls.mono (kba.out _) ?_) | (with_reducible refine Calls.mono (ka0.out _) ?_) | (with_reducible refine Calls.mono (kac.out _) ?_)); rintro e w1 ⟨rfl, hb1⟩; replace HB := hid (HB.out.trans (hb1.mono HB.out.size)); clear hb1)
      | (go_at_call 20; (first | (with_reducible refine Calls.mono (mab.out _) ?_) | (with_reducible refine Calls.mono (mba.out _) ?_) | (with_reducible refine Calls.mono (ma1.out _) ?_) | (with_reducible refine Calls.mono (mac.out _) ?_)); rintro e w1 ⟨rfl, hb1⟩; replace HB := hid (HB.out.trans (hb1.mono HB.out.size)); clear hb1)
      | (go_at_call 16; (first | (with_reducible refine Calls.mono (jab.out _) ?_) | (with_reducible refine Calls.mono (jac.out _) ?_) | (with_reducible refine Calls.mono (jaa.out _) ?_)); rintro e w1 ⟨rfl, hb1⟩; replace HB := hid (HB.out.trans (hb1.mono HB.out.size)); clear hb1)
      | (go_at_call 12; (first | (with_reducible refine Calls.mono (flb.out _) ?_) | (with_reducible refine Calls.mono (flc.out _) ?_)); rintro e w1 ⟨rfl, hb1⟩; replace HB := hid (HB.out.trans (hb1.mono HB.out.size)); clear hb1)
      | (go_at_call 10; (first | (with_reducible refine Calls.mono (ofb.out _) ?_) | (with_reducible refine Calls.mono (ofc.out _) ?_)); rintro e w1 ⟨rfl, hb1⟩; replace HB := hid (HB.out.trans (hb1.mono HB.out.size)); clear hb1))
    go_ret
    exact ⟨rfl, HB.out⟩
  · obtain ⟨g1, g2, g3, g4, g5⟩ := hall hbc
    have g6 := g5 ha0
    clear hall g5
    go_enter Try.func7, Try.ntmps7
    go_wp2_with (first
      | (go_at_call 9; (first | (with_reducible refine Calls.mono (h9.out _) ?_)); rintro e w1 ⟨rfl, hb1⟩; replace HB := hid (HB.out.trans (hb1.mono HB.out.size)); clear hb1)
      | (go_at_call 14; (first | (with_reducible refine Calls.mono (kab.out _) ?_) | (with_reducible refine Calls.mono (kba.out _) ?_) | (with_reducible refine Calls.mono (ka0.out _) ?_) | (with_reducible refine Calls.mono (kac.out _) ?_)); rintro e w1 ⟨rfl, hb1⟩; replace HB := hid (HB.out.trans (hb1.mono HB.out.size)); clear hb1)
      | (go_at_call 20; (first | (with_reducible refine Calls.mono (mab.out _) ?_) | (with_reducible refine Calls.mono (mba.out _) ?_) | (with_reducible refine Calls.mono (ma1.out _) ?_) | (with_reducible refine Calls.mono (mac.out _) ?_)); rintro e w1 ⟨rfl, hb1⟩; replace HB := hid (HB.out.trans (hb1.mono HB.out.size)); clear hb1)
      | (go_at_call 16; (first | (with_reducible refine Calls.mono (jab.out _) ?_) | (with_reducible refine Calls.mono (jac.out _) ?_) | (with_reducible refine Calls.mono (jaa.out _) ?_)); rintro e w1 ⟨rfl, hb1⟩; replace HB := hid (HB.out.trans (hb1.mono HB.out.size)); clear hb1)
      | (go_at_call 12; (first | (with_reducible refine Calls.mono (flb.out _) ?_) | (with_reducible refine Calls.mono (flc.out _) ?_)); rintro e w1 ⟨rfl, hb1⟩; replace HB := hid (HB.out.trans (hb1.mono HB.out.size)); clear hb1)
      | (go_at_call 10; (first | (with_reducible refine Calls.mono (ofb.out _) ?_) | (with_reducible refine Calls.mono (ofc.out _) ?_)); rintro e w1 ⟨rfl, hb1⟩; replace HB := hid (HB.out.trans (hb1.mono HB.out.size)); clear hb1))
    go_ret
    exact ⟨rfl, HB.out⟩
end Go.Proofs.Ytdfobaggdeoggaa
