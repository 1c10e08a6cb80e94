/- Quotients of numbers of 160 bits. -/
import Derived.Test.YtdfobaggdeoggaaTimes
import Derived.Test.YtdfobaggdeoggaaDrawn
namespace Go.Proofs.Ytdfobaggdeoggaa
open Go.RowKit
theorem results_arrays {P : Program} {fn : Func} {p q : Tmp} {ty ty' : TypeId} (h : fn.results = #[.cell p ty, .cell q ty']) {tmps : Array Value} {w : World} {b b' : Nat} {l l' : List Value} {t t' : TypeId} {d d' : TypeDesc}
    (hp : tmps.getD p undef = .pointer (some ⟨b, 0, none⟩)) (hq : tmps.getD q undef = .pointer (some ⟨b', 0, none⟩)) (hb : Blk w b l t) (hb' : Blk w b' l' t')
    (hu : P.underlying ty = some d) (hd : d.isRow = true) (hi : (P.info? ty).map (·.size) = some l.length) (hu' : P.underlying ty' = some d') (hd' : d'.isRow = true) (hi' : (P.info? ty').map (·.size) = some l'.length) :
    (results fn tmps).run P w = .ok (.tuple #[.agg l.toArray, .agg l'.toArray]) w := by
  have hl := run_loadVar_mid (P := P) w b 0 ty l d hb.range hu hd hi
  have hl' := run_loadVar_mid (P := P) w b' 0 ty' l' d' hb'.range hu' hd' hi'
  have ha : (asAddr (tmps[p]?.getD undef)).run P w = .ok ⟨b, 0, none⟩ w := by
    have : tmps[p]?.getD undef = .pointer (some ⟨b, 0, none⟩) := by simpa using hp
    rw [this]; rfl
  have ha' : (asAddr (tmps[q]?.getD undef)).run P w = .ok ⟨b', 0, none⟩ w := by
    have : tmps[q]?.getD undef = .pointer (some ⟨b', 0, none⟩) := by simpa using hq
    rw [this]; rfl
  simp only [results, h]
  simp [Sem.run_bind, Result.andThen, ha, hl, ha', hl']
/-- What stands in memory while a number is divided. -/
structure DivAt (w : World) (A a b q r : Nat) (W : World) : Prop where
  h0 : Blk W A (big a) 37
  h1 : Blk W (A + 1) (big b) 37
  h2 : Blk W (A + 2) (big 0) 37
  h3 : Blk W (A + 3) (big 0) 37
  h4 : Blk W (A + 4) (big q) 37
  h5 : Blk W (A + 5) (big r) 37
  be : Below A w W
theorem DivAt.call {w : World} {A a b q r : Nat} {W W' : World} (h : DivAt w A a b q r W) (hb : Below W.heap.size W W') : DivAt w A a b q r W' :=
  ⟨h.h0.below hb h.h0.lt, h.h1.below hb h.h1.lt, h.h2.below hb h.h2.lt, h.h3.below hb h.h3.lt, h.h4.below hb h.h4.lt, h.h5.below hb h.h5.lt, h.be.trans (hb.mono (Nat.le_of_lt h.h0.lt))⟩
theorem DivAt.store5 {w : World} {A a b q r : Nat} {W : World} (h : DivAt w A a b q r W) (m : Nat) : DivAt w A a b q m (W.setCells (A + 5) 0 (big m)) := by
  refine ⟨h.h0.setCells_ne _ (by omega) _ _, h.h1.setCells_ne _ (by omega) _ _, h.h2.setCells_ne _ (by omega) _ _, h.h3.setCells_ne _ (by omega) _ _, h.h4.setCells_ne _ (by omega) _ _, ?_, Below.setCells h.be (by omega) 0 _⟩
  have k := Blk.setCells (big m) 0 h.h5 (by rw [big_length, big_length]; omega)
  rw [show over (big r) 0 (big m) = big m by simp [over, big_length]] at k
  exact k
theorem DivAt.set5 {w : World} {A a b q r : Nat} {W : World} (h : DivAt w A a b q r W) (j : Nat) (v : Value) (m : Nat) (hm : (big r).set j v = big m) : DivAt w A a b q m (W.setCell ⟨A + 5, j, none⟩ v) := by
  refine ⟨h.h0.set_ne _ (by show A ≠ A + 5; omega) _, h.h1.set_ne _ (by show A + 1 ≠ A + 5; omega) _, h.h2.set_ne _ (by show A + 2 ≠ A + 5; omega) _, h.h3.set_ne _ (by show A + 3 ≠ A + 5; omega) _, h.h4.set_ne _ (by show A + 4 ≠ A + 5; omega) _, ?_, h.be.setCell (by show A ≤ A + 5; omega) _⟩
  have k := h.h5.set j v
  rw [hm] at k
  exact k
theorem DivAt.set4 {w : World} {A a b q r : Nat} {W : World} (h : DivAt w A a b q r W) (j : Nat) (v : Value) (m : Nat) (hm : (big q).set j v = big m) : DivAt w A a b m r (W.setCell ⟨A + 4, j, none⟩ v) := by
  refine ⟨h.h0.set_ne _ (by show A ≠ A + 4; omega) _, h.h1.set_ne _ (by show A + 1 ≠ A + 4; omega) _, h.h2.set_ne _ (by show A + 2 ≠ A + 4; omega) _, h.h3.set_ne _ (by show A + 3 ≠ A + 4; omega) _, ?_, h.h5.set_ne _ (by show A + 5 ≠ A + 4; omega) _, h.be.setCell (by show A ≤ A + 4; omega) _⟩
  have k := h.h4.set j v
  rw [hm] at k
  exact k
theorem big_low (r : Nat) (x : Bool) : (big (r * 2)).set 0 (.bool x) = big (r * 2 + x.toNat) := by
  apply List.ext_getElem?
  intro i
  by_cases h : i < 160
  · rw [big_get _ i h, List.getElem?_set, big_get _ i h]
    cases i with
    | zero => rw [if_pos rfl, if_pos (by rw [big_length]; omega), Nat.testBit_zero]; cases x <;> simp <;> omega
    | succ i =>
      rw [if_neg (by omega), Nat.testBit_succ, Nat.testBit_succ, show (r * 2 + x.toNat) / 2 = r * 2 / 2 by cases x <;> simp <;> omega]
  · rw [List.getElem?_eq_none (by simp [big_length]; omega), List.getElem?_eq_none (by rw [big_length]; omega)]
theorem big_top (q j : Nat) : (big (q * 2 ^ (j + 1))).set j (.bool true) = big (q * 2 ^ (j + 1) + 2 ^ j) := by
  apply List.ext_getElem?
  intro i
  by_cases h : i < 160
  · rw [big_get _ i h, List.getElem?_set, big_get _ i h]
    have e : q * 2 ^ (j + 1) + 2 ^ j = 2 ^ (j + 1) * q ||| 2 ^ j := by
      rw [← Nat.two_pow_add_eq_or_of_lt (by rw [Nat.pow_succ]; have := Nat.two_pow_pos j; omega) q, Nat.mul_comm]
    rw [e, Nat.testBit_or, Nat.testBit_two_pow, Nat.mul_comm q]
    by_cases hj : j = i
    · subst hj; rw [if_pos rfl, if_pos (by rw [big_length]; omega)]; simp
    · rw [if_neg hj]; simp [hj]
  · rw [List.getElem?_eq_none (by simp [big_length]; omega), List.getElem?_eq_none (by rw [big_length]; omega)]
theorem div_next (a b j : Nat) (hb : 0 < b) : (b ≤ a / 2 ^ (j + 1) % b * 2 + (a.testBit j).toNat → a / 2 ^ j % b = a / 2 ^ (j + 1) % b * 2 + (a.testBit j).toNat - b ∧ a / 2 ^ j / b * 2 ^ j = a / 2 ^ (j + 1) / b * 2 ^ (j + 1) + 2 ^ j) ∧ (¬ b ≤ a / 2 ^ (j + 1) % b * 2 + (a.testBit j).toNat → a / 2 ^ j % b = a / 2 ^ (j + 1) % b * 2 + (a.testBit j).toNat ∧ a / 2 ^ j / b * 2 ^ j = a / 2 ^ (j + 1) / b * 2 ^ (j + 1)) := by
  have e1 : a / 2 ^ j / 2 = a / 2 ^ (j + 1) := by rw [Nat.div_div_eq_div_mul, Nat.pow_succ]
  have ex : (a.testBit j).toNat = a / 2 ^ j % 2 := by
    rw [Nat.testBit_eq_decide_div_mod_eq]
    by_cases h : a / 2 ^ j % 2 = 1
    · rw [decide_eq_true h, h]; rfl
    · rw [decide_eq_false h]; simp; omega
  rw [ex, ← e1, Nat.pow_succ]
  generalize a / 2 ^ j = T
  have hT := Nat.div_add_mod T 2
  have hx : T % 2 < 2 := Nat.mod_lt _ (by omega)
  generalize T / 2 = t at *
  generalize T % 2 = x at *
  have hd := Nat.div_add_mod t b
  have hm := Nat.mod_lt t hb
  generalize t / b = q at *
  generalize t % b = r at *
  generalize 2 ^ j = P at *
  refine ⟨fun h => ?_, fun h => ?_⟩
  · have k : T / b = 2 * q + 1 ∧ T % b = r * 2 + x - b := (Nat.div_mod_unique hb).2 ⟨by rw [Nat.mul_add, Nat.mul_one, Nat.mul_left_comm]; omega, by omega⟩
    rw [k.1, k.2]
    exact ⟨rfl, by rw [Nat.add_mul, Nat.one_mul, Nat.mul_comm 2 q, Nat.mul_assoc, Nat.mul_comm 2]⟩
  · have k : T / b = 2 * q ∧ T % b = r * 2 + x := (Nat.div_mod_unique hb).2 ⟨by rw [Nat.mul_left_comm]; omega, by omega⟩
    rw [k.1, k.2]
    exact ⟨rfl, by rw [Nat.mul_comm 2 q, Nat.mul_assoc, Nat.mul_comm 2]⟩
attribute [local go_sem ↓] zv37
set_option maxRecDepth 100000 in
set_option maxHeartbeats 4000000 in
theorem divided_any (a b : Nat) (ha : a < 2 ^ 160) (hb0 : 0 < b) (hb : b ≤ 18446744073709551616) (w : World) : Calls Try.prog 34 #[.agg (big a).toArray, .agg (big b).toArray] w fun e w' => e = .returned (.tuple #[.agg (big (a / b)).toArray, .agg (big (a % b)).toArray]) ∧ Below w.heap.size w w' := by
  have h28 : Hid (∀ r W, Calls Try.prog 28 #[.agg (big r).toArray, .int .i64 1] W fun e w' => e = .returned (.agg (big (r * 2)).toArray) ∧ Below W.heap.size W w') := fun r => up_any r 1 (by omega)
  have h38 : Hid (∀ r W, r < 100000000000000000000 → Calls Try.prog 38 #[.agg (big r).toArray, .agg (big b).toArray] W fun e w' => e = .returned (.bool (decide (r < b))) ∧ Below W.heap.size W w') := fun r W hr => less_any r b (Nat.lt_trans hr (by decide)) (Nat.lt_of_le_of_lt hb (by decide)) W
  have h39 : Hid (∀ r W, r < 100000000000000000000 → b ≤ r → Calls Try.prog 39 #[.agg (big r).toArray, .agg (big b).toArray] W fun e w' => e = .returned (.agg (big (r - b)).toArray) ∧ Below W.heap.size W w') := fun r W hr hbr => minus_any r b hbr (Nat.lt_trans hr (by decide)) W
  have HN : Hid (∀ j, (b ≤ a / 2 ^ (j + 1) % b * 2 + (a.testBit j).toNat → a / 2 ^ j % b = a / 2 ^ (j + 1) % b * 2 + (a.testBit j).toNat - b ∧ a / 2 ^ j / b * 2 ^ j = a / 2 ^ (j + 1) / b * 2 ^ (j + 1) + 2 ^ j) ∧ (¬ b ≤ a / 2 ^ (j + 1) % b * 2 + (a.testBit j).toNat → a / 2 ^ j % b = a / 2 ^ (j + 1) % b * 2 + (a.testBit j).toNat ∧ a / 2 ^ j / b * 2 ^ j = a / 2 ^ (j + 1) / b * 2 ^ (j + 1))) := fun j => div_next a b j hb0
  have HB : Hid (0 < b ∧ b ≤ 18446744073709551616) := ⟨hb0, hb⟩
  have HS0 : Hid (a / 2 ^ 160 / b * 2 ^ 160 = 0 ∧ a / 2 ^ 160 % b = 0) := by rw [Nat.div_eq_of_lt ha]; exact ⟨by simp, by simp⟩
  have HF : Hid (a / 2 ^ 0 / b * 2 ^ 0 = a / b ∧ a / 2 ^ 0 % b = a % b) := by rw [Nat.pow_zero, Nat.div_one, Nat.mul_one]; exact ⟨rfl, rfl⟩
  obtain ⟨QQ, hQQ⟩ : ∃ Q, Q = a / b := ⟨_, rfl⟩
  obtain ⟨RR, hRR⟩ : ∃ R, R = a % b := ⟨_, rfl⟩
  rw [← hQQ, ← hRR] at HF ⊢
  clear hQQ hRR ha hb hb0
  have H0 : DivAt w w.heap.size a b 0 0 (((((((w.alloc (.cells (big a).toArray 37)).alloc (.cells (big b).toArray 37)).alloc (.cells (big 0).toArray 37)).alloc (.cells (big 0).toArray 37)).alloc (.cells (big 0).toArray 37)).alloc (.cells (big 0).toArray 37))) :=
    ⟨(((((Blk.new _ _ _).alloc _).alloc _).alloc _).alloc _).alloc _, ((((Blk.new' _ _ _ _ (by simp)).alloc _).alloc _).alloc _).alloc _, (((Blk.new' _ _ _ _ (by simp)).alloc _).alloc _).alloc _, ((Blk.new' _ _ _ _ (by simp)).alloc _).alloc _, (Blk.new' _ _ _ _ (by simp)).alloc _, Blk.new' _ _ _ _ (by simp), ((((((Below.refl _ _).alloc (Nat.le_refl _) _).alloc (by simp) _).alloc (by simp; omega) _).alloc (by simp; omega) _).alloc (by simp; omega) _).alloc (by simp; omega) _⟩
  go_enter Try.func34, Try.ntmps34
  go_wp2
  generalize ((((((w.alloc (.cells (big a).toArray 37)).alloc (.cells (big b).toArray 37)).alloc (.cells (big 0).toArray 37)).alloc (.cells (big 0).toArray 37)).alloc (.cells (big 0).toArray 37)).alloc (.cells (big 0).toArray 37)) = W at *
  obtain ⟨A, hA⟩ : ∃ A, A = w.heap.size := ⟨_, rfl⟩
  rw [← hA] at H0
  simp only [← hA, show A + 1 + 1 = A + 2 from rfl, show A + 2 + 1 = A + 3 from rfl, show A + 3 + 1 = A + 4 from rfl, show A + 4 + 1 = A + 5 from rfl]
  have HAW := hid hA
  clear hA
  go_loopw [8] (fun iv wr => ∃ (k : Nat), iv = .int .i64 ((k : Int) - 1) ∧ k ≤ 160 ∧ Hid (DivAt w A a b (a / 2 ^ k / b * 2 ^ k) (a / 2 ^ k % b) wr)) (fun iv _ => (intOf iv + 1).toNat)
  case atStart => exact ⟨160, rfl, by omega, by rw [HS0.out.1, HS0.out.2]; exact H0⟩
  case round =>
    clear H0 HS0
    obtain ⟨k, rfl, hk, HI⟩ := hrel
    by_cases hlt : 0 < k
    · obtain ⟨j, rfl⟩ : ∃ j, k = j + 1 := ⟨k - 1, by omega⟩
      have ei : ((j + 1 : Nat) : Int) - 1 = (j : Int) := by omega
      rw [ei]
      have e0 : (0 : Int) ≤ (j : Int) := by omega
      have e1 : (j : Int) < 160 := by omega
      have HJ := hid (HN.out j)
      have hmod := Nat.mod_lt (a / 2 ^ (j + 1)) HB.out.1
      obtain ⟨q, hq⟩ : ∃ q, q = a / 2 ^ (j + 1) / b := ⟨_, rfl⟩
      obtain ⟨r, hr⟩ : ∃ r, r = a / 2 ^ (j + 1) % b := ⟨_, rfl⟩
      rw [← hq, ← hr] at HI HJ
      rw [← hr] at hmod
      have HR : Hid (r * 2 + (a.testBit j).toNat < 100000000000000000000) := by
        have := HB.out.2
        have : (a.testBit j).toNat ≤ 1 := Bool.toNat_le _
        show _ < _; omega
      clear hq hr hmod HN HF
      have I := HI.out
      clear HI
      have r5 := I.h5.range
      go_wp2_with (first
        | ((with_reducible refine wpL_load 37 (A + 5) 0 (big r) _ ?_ r5 Try.underlying37 ?_ (size37 r) ?_); (rfl); (rfl); (simp only [Act.put, List.setIfInBounds_toArray, List.set_cons_zero, List.set_cons_succ])))
      refine Calls.mono (h28.out _ _) ?_
      rintro e w2 ⟨rfl, hb2⟩
      have I2 := I.call hb2
      have t5 := I2.h5.there 0 (big (r * 2)).length (by rw [big_length, big_length]; omega)
      have I3 := hid (I2.store5 (r * 2))
      clear I I2 r5 hb2
      go_upto_region 6 with (first
        | ((with_reducible refine wpL_store 37 (A + 5) 0 (big (r * 2)) ?_ ?_ t5 (size37 (r * 2)) (big_oneCell (r * 2)) ?_); (rfl); (rfl); (simp only [Act.put])))
      generalize w2.setCells (A + 5) 0 (big (r * 2)) = W3 at *
      clear t5
      have c0 := I3.out.h0.bit (j := j) (by omega)
      have c5 := I3.out.h5.bit (j := 0) (by omega)
      have f5 := I3.out.h5.frozen 0
      have I4 := hid (I3.out.set5 0 (.bool (a.testBit j)) _ (big_low r (a.testBit j)))
      clear I3
      generalize a.testBit j = x at *
      generalize (r * 2).testBit 0 = x0 at *
      generalize r * 2 + x.toNat = R at *
      go_upto_region 7 with (fail)
      generalize W3.setCell ⟨A + 5, 0, none⟩ (.bool x) = W4 at *
      clear c0 c5 f5
      have I := I4.out
      clear I4
      have r5 := I.h5.range
      have r1 := I.h1.range
      have hcc := hid (h38.out R W4 HR.out)
      go_wp2_with (first
        | ((with_reducible refine wpL_load 37 (A + 5) 0 (big R) _ ?_ r5 Try.underlying37 ?_ (size37 R) ?_); (rfl); (rfl); (simp only [Act.put, List.setIfInBounds_toArray, List.set_cons_zero, List.set_cons_succ]))
        | ((with_reducible refine wpL_load 37 (A + 1) 0 (big b) _ ?_ r1 Try.underlying37 ?_ (size37 b) ?_); (rfl); (rfl); (simp only [Act.put, List.setIfInBounds_toArray, List.set_cons_zero, List.set_cons_succ])))
      refine Calls.mono hcc.out ?_
      rintro e w5 ⟨rfl, hb5⟩
      have I2 := I.call hb5
      clear I r5 r1 hb5 hcc
      by_cases hbr : b ≤ R
      · have hd : decide (R < b) = false := decide_eq_false (by omega)
        rw [hd]
        have r5 := I2.h5.range
        have r1 := I2.h1.range
        have hcc := hid (h39.out R w5 HR.out hbr)
        have hJ := hid (HJ.out.1 hbr)
        clear hd HJ
        generalize R - b = R2 at *
        go_wp2_with (first
          | ((with_reducible refine wpL_load 37 (A + 5) 0 (big R) _ ?_ r5 Try.underlying37 ?_ (size37 R) ?_); (rfl); (rfl); (simp only [Act.put, List.setIfInBounds_toArray, List.set_cons_zero, List.set_cons_succ]))
          | ((with_reducible refine wpL_load 37 (A + 1) 0 (big b) _ ?_ r1 Try.underlying37 ?_ (size37 b) ?_); (rfl); (rfl); (simp only [Act.put, List.setIfInBounds_toArray, List.set_cons_zero, List.set_cons_succ])))
        refine Calls.mono hcc.out ?_
        rintro e w6 ⟨rfl, hb6⟩
        have I3 := I2.call hb6
        have t5 := I3.h5.there 0 (big R2).length (by rw [big_length, big_length]; omega)
        have I4 := hid (I3.store5 R2)
        clear I2 I3 r5 r1 hb6 hcc
        go_upto_region 9 with (first
          | ((with_reducible refine wpL_store 37 (A + 5) 0 (big R2) ?_ ?_ t5 (size37 R2) (big_oneCell R2) ?_); (rfl); (rfl); (simp only [Act.put])))
        generalize w6.setCells (A + 5) 0 (big R2) = W7 at *
        clear t5
        have c4 := I4.out.h4.bit (j := j) (by omega)
        have f4 := I4.out.h4.frozen j
        have I5 := hid (I4.out.set4 j (.bool true) _ (big_top q j))
        clear I4
        generalize (q * 2 ^ (j + 1)).testBit j = y at *
        go_wp2
        exact ⟨⟨j, rfl, by omega, by rw [hJ.out.1, hJ.out.2]; exact I5⟩, by simp only [intOf]; omega⟩
      · have hd : decide (R < b) = true := decide_eq_true (by omega)
        rw [hd]
        have hJ := hid (HJ.out.2 hbr)
        have I5 := hid I2
        clear hd HJ I2
        go_wp2
        exact ⟨⟨j, rfl, by omega, by rw [hJ.out.1, hJ.out.2]; exact I5⟩, by simp only [intOf]; omega⟩
    · obtain rfl : k = 0 := by omega
      have I := HI.out
      rw [HF.out.1, HF.out.2] at I
      clear HI HN h28 h38 h39
      go_wp2
      refine wp_region_held_drew (S := fun W' => Blk W' (A + 4) (big QQ) 37 ∧ Blk W' (A + 5) (big RR) 37) (by kernel_rfl) ⟨I.h4.drew, I.h5.drew⟩ fun hS => ?_
      have g2 := I.h2.drew
      have g3 := I.h3.drew
      have hbe := I.be.drew
      clear I
      generalize wr.drew = W2 at *
      refine takeH_load 37 (A + 4) 0 (big QQ) _ (i := 0) (by exact rfl) (by kernel_rfl) (by kernel_rfl) (by kernel_rfl) (fun _ _ _ h => h) (by go_simp) (fun w' h => h.1.range) Try.underlying37 rfl (size37 _) hS ?_
      simp only [Act.put, List.setIfInBounds_toArray, List.set_cons_zero, List.set_cons_succ]
      refine takeH_load 37 (A + 5) 0 (big RR) _ (i := 1) (by exact rfl) (by kernel_rfl) (by kernel_rfl) (by kernel_rfl) (fun _ _ _ h => h) (by go_simp) (fun w' h => h.2.range) Try.underlying37 rfl (size37 _) hS ?_
      simp only [Act.put, List.setIfInBounds_toArray, List.set_cons_zero, List.set_cons_succ]
      have t2 := g2.there 0 (big QQ).length (by rw [big_length, big_length]; omega)
      have k2 := Blk.setCells (big QQ) 0 g2 (by rw [big_length, big_length]; omega)
      rw [show over (big 0) 0 (big QQ) = big QQ by simp [over, big_length]] at k2
      have k3 := g3.setCells_ne (A + 2) (by omega) 0 (big QQ)
      have hS2 : (fun W' => Blk W' (A + 4) (big QQ) 37 ∧ Blk W' (A + 5) (big RR) 37) (W2.setCells (A + 2) 0 (big QQ)) := ⟨hS.1.setCells_ne _ (by omega) _ _, hS.2.setCells_ne _ (by omega) _ _⟩
      have hbe2 := Below.setCells hbe (b := A + 2) (by omega) 0 (big QQ)
      refine wpAnyH_ready (rs := [2]) (by kernel_rfl) (by simp) ?_
      refine readyH_store 37 (A + 2) 0 (big QQ) (by exact rfl) (by go_simp) (by go_simp) t2 (size37 _) (big_oneCell _) hS2 ?_ AllReadyH.nil
      simp only [Act.put]
      clear g2 g3 hbe t2 hS
      generalize W2.setCells (A + 2) 0 (big QQ) = W3 at *
      have t3 := k3.there 0 (big RR).length (by rw [big_length, big_length]; omega)
      have k4 := Blk.setCells (big RR) 0 k3 (by rw [big_length, big_length]; omega)
      rw [show over (big 0) 0 (big RR) = big RR by simp [over, big_length]] at k4
      have k5 := k2.setCells_ne (A + 3) (by omega) 0 (big RR)
      have hS3 : (fun W' => Blk W' (A + 4) (big QQ) 37 ∧ Blk W' (A + 5) (big RR) 37) (W3.setCells (A + 3) 0 (big RR)) := ⟨hS2.1.setCells_ne _ (by omega) _ _, hS2.2.setCells_ne _ (by omega) _ _⟩
      have hbe3 := Below.setCells hbe2 (b := A + 3) (by omega) 0 (big RR)
      refine wpAnyH_ready (rs := [3]) (by kernel_rfl) (by simp) ?_
      refine readyH_store 37 (A + 3) 0 (big RR) (by exact rfl) (by go_simp) (by go_simp) t3 (size37 _) (big_oneCell _) hS3 ?_ AllReadyH.nil
      simp only [Act.put]
      refine wpAnyH_done (by kernel_rfl) ?_ _
      clear k2 k3 hS2 hbe2 t3 hS3
      go_wp2
      exact bodyPost_ret (results_arrays Try.results34 rfl rfl k5 k4 Try.underlying37 rfl (size37 _) Try.underlying37 rfl (size37 _)) rfl ⟨rfl, by rw [← HAW.out]; exact hbe3⟩
end Go.Proofs.Ytdfobaggdeoggaa
