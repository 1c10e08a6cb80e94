/- A number's size and sign. -/
import Derived.Test.YtdfobaggdeoggaaHeld
namespace Go.Proofs.Ytdfobaggdeoggaa
open Go.RowKit
theorem results_cell_tmp {P : Program} {fn : Func} {p q : Tmp} {ty : TypeId} (h : fn.results = #[.cell p ty, .tmp q]) {tmps : Array Value} {w : World} {b : Nat} {l : List Value} {t : TypeId} {d : TypeDesc} {v : Value}
    (hp : tmps.getD p undef = .pointer (some ⟨b, 0, none⟩)) (hq : tmps.getD q undef = v) (hb : Blk w b l t)
    (hu : P.underlying ty = some d) (hd : d.isRow = true) (hi : (P.info? ty).map (·.size) = some l.length) :
    (results fn tmps).run P w = .ok (.tuple #[.agg l.toArray, v]) w := by
  have hl := run_loadVar_mid (P := P) w b 0 ty l d hb.range hu hd hi
  have ha : (asAddr (tmps[p]?.getD undef)).run P w = .ok ⟨b, 0, none⟩ w := by
    have : tmps[p]?.getD undef = .pointer (some ⟨b, 0, none⟩) := by simpa using hp
    rw [this]; rfl
  have hv : tmps[q]?.getD undef = v := by simpa using hq
  simp only [results, h]
  simp [Sem.run_bind, Result.andThen, ha, hl, hv]
theorem and1 (m : Nat) : bits .and .i64 (m : Int) 1 = ((m % 2 : Nat) : Int) := by
  have e2 : (BitVec.ofInt 64 1) = 1#64 := rfl
  have e3 : ((BitVec.ofInt 64 (m : Int)) &&& 1#64).toNat = m % 2 := by
    rw [BitVec.toNat_and, BitVec.toNat_ofInt]
    have : ((m : Int) % ((2 ^ 64 : Nat) : Int)).toNat &&& (1#64).toNat = ((m : Int) % ((2 ^ 64 : Nat) : Int)).toNat % 2 := Nat.and_one_is_mod _
    rw [this]; omega
  show IntKind.i64.wrap (((BitVec.ofInt 64 (m : Int)) &&& (BitVec.ofInt 64 1)).toNat : Int) = _
  rw [e2, e3, IntKind.wrap_i64]
  omega
attribute [local go_sem ↓] zv37
/-- The size, below 0 less 1. -/
def half (n : Int) : Nat := if n < 0 then (-(n + 1)).toNat else n.toNat
set_option maxRecDepth 100000 in
set_option maxHeartbeats 4000000 in
theorem ofBig_any (n : Int) (hn : I64 n) (w : World) : Calls Try.prog 26 #[.int .i64 n] w fun e w' => e = .returned (.tuple #[.agg (big n.natAbs).toArray, .bool (decide (n < 0))]) ∧ Below w.heap.size w w' := by
  obtain ⟨hn1, hn2⟩ := hn
  obtain ⟨N, hN⟩ : ∃ N, N = half n := ⟨_, rfl⟩
  have hb63 : N < 9223372036854775808 := by rw [hN]; unfold half; split <;> omega
  have HX : Hid ((n < 0 → -(n + 1) = (N : Int) ∧ n.natAbs = N + 1) ∧ (0 ≤ n → n = (N : Int) ∧ n.natAbs = N)) := by
    rw [hN]; unfold half; refine ⟨fun h => ?_, fun h => ?_⟩ <;> split <;> omega
  have HT : Hid (∀ i, 63 ≤ i → N.testBit i = false) := fun i hi => Nat.testBit_lt_two_pow (Nat.lt_of_lt_of_le hb63 (Nat.le_trans (by decide) (Nat.pow_le_pow_right (by omega) hi)))
  have HS : Hid (∀ i : Nat, ((N / 2 ^ i % 2 : Nat) == 1) = N.testBit i) := fun i => by rw [Nat.testBit_eq_decide_div_mod_eq]; rfl
  have h37 : Hid (∀ W, Calls Try.prog 37 #[.agg (big N).toArray, .agg (big 1).toArray] W fun e w' => e = .returned (.agg (big (N + 1)).toArray) ∧ Below W.heap.size W w') := plus_any N 1
  obtain ⟨V, hV⟩ : ∃ V, V = n.natAbs := ⟨_, rfl⟩
  rw [← hV] at HX ⊢
  clear hV hN
  have hB0 : Blk ((w.alloc (.cells (big 0).toArray 37)).alloc (.cells (big 0).toArray 37)) w.heap.size (big 0) 37 := (Blk.new _ _ _).alloc _
  have hB1 : Blk ((w.alloc (.cells (big 0).toArray 37)).alloc (.cells (big 0).toArray 37)) (w.heap.size + 1) (big 0) 37 := Blk.new' _ _ _ _ (by simp)
  have hbe : Below w.heap.size w ((w.alloc (.cells (big 0).toArray 37)).alloc (.cells (big 0).toArray 37)) := ((Below.refl _ _).alloc (Nat.le_refl _) _).alloc (by simp) _
  go_enter Try.func26, Try.ntmps26
  go_wp2
  generalize ((w.alloc (.cells (big 0).toArray 37)).alloc (.cells (big 0).toArray 37)) = W at *
  obtain ⟨A, hA⟩ : ∃ A, A = w.heap.size := ⟨_, rfl⟩
  rw [← hA] at hB0 hB1 hbe
  simp only [← hA]
  have HAW := hid hA
  clear hA
  have HB0 := hid hB0
  have HBE := hid hbe
  clear hB0 hbe
  go_loopw [6, 7] (fun iv _ wr => ∃ (i : Nat) (l : List Value), iv = .int .i64 (i : Nat) ∧ i ≤ 64 ∧ Hid (Part N i l ∧ ∀ j, i ≤ j → l[j]? = (big 0)[j]?) ∧ Hid (Blk wr (A + 1) l 37) ∧ Hid (Only (A + 1) W wr)) (fun iv _ _ => 64 - (intOf iv).toNat)
  case atStart => exact ⟨0, big 0, rfl, by omega, ⟨Part.start N, fun j _ => rfl⟩, hB1, Only.refl _ _⟩
  case round =>
    clear hB1
    obtain ⟨i, l, rfl, hi, HL, HK, HO⟩ := hrel
    by_cases hlt : i < 64
    · have e1 : (i : Int) < 160 := by omega
      have e0 : (0 : Int) ≤ (i : Int) := by omega
      have e64 : (i : Int) < 64 := by omega
      obtain ⟨d, hd⟩ := HL.out.1.2.2 i (by omega)
      have c3 : wr.cell? ⟨A + 1, i, none⟩ = some (.bool d) := by rw [HK.out.cell]; exact hd
      have f3 := HK.out.frozen i
      have HP : Hid (Part N (i + 1) (l.set i (.bool (N.testBit i))) ∧ ∀ j, i + 1 ≤ j → (l.set i (.bool (N.testBit i)))[j]? = (big 0)[j]?) := ⟨HL.out.1.step (by omega), fun j hj => by rw [List.getElem?_set_ne (by omega)]; exact HL.out.2 j (by omega)⟩
      have HK2 : Hid (∀ b', b' = A + 1 → ∀ v, v = Value.bool (N.testBit i) → Blk (wr.setCell ⟨b', i, none⟩ v) (A + 1) (l.set i (.bool (N.testBit i))) 37 ∧ Only (A + 1) W (wr.setCell ⟨b', i, none⟩ v)) := by
        rintro b' rfl v rfl
        exact ⟨HK.out.set _ _, HO.out.setCell _ _⟩
      have hs := HS.out i
      have ht := HT.out i
      clear hd HL HK HO HT HS
      by_cases h63 : i < 63
      · have e63 : (i : Int) < 63 := by omega
        have hbit : Hid ((bits BinOp.and IntKind.i64 ((N : Int) / 2 ^ i) 1 == 1) = N.testBit i) := by
          rw [← hs, show (N : Int) / 2 ^ i = ((N / 2 ^ i : Nat) : Int) by simp, and1, Bool.eq_iff_iff]
          simp only [beq_iff_eq]; generalize N / 2 ^ i % 2 = r; show (r : Int) = 1 ↔ r = 1; omega
        clear ht hs
        generalize N.testBit i = x at *
        rcases Int.lt_or_le n 0 with hneg | hpos
        · have hx := (HX.out.1 hneg).1
          go_wp2
          exact ⟨⟨i + 1, _, by simp, by omega, HP, (HK2.out _ rfl _ (by rw [hbit.out])).1, (HK2.out _ rfl _ (by rw [hbit.out])).2⟩, by simp only [intOf]; omega⟩
        · have hx := (HX.out.2 hpos).1
          go_wp2
          exact ⟨⟨i + 1, _, by simp, by omega, HP, (HK2.out _ rfl _ (by rw [hbit.out])).1, (HK2.out _ rfl _ (by rw [hbit.out])).2⟩, by simp only [intOf]; omega⟩
      · obtain rfl : i = 63 := by omega
        rw [ht (by omega)] at HP HK2
        clear ht hs
        rcases Int.lt_or_le n 0 with hneg | hpos
        · have hx := (HX.out.1 hneg).1
          go_wp2
          exact ⟨⟨64, _, by simp, by omega, HP, (HK2.out _ rfl _ rfl).1, (HK2.out _ rfl _ rfl).2⟩, by simp only [intOf]; omega⟩
        · go_wp2
          exact ⟨⟨64, _, by simp, by omega, HP, (HK2.out _ rfl _ rfl).1, (HK2.out _ rfl _ rfl).2⟩, by simp only [intOf]; omega⟩
    · obtain rfl : i = 64 := by omega
      have hl : l = big N := by
        apply List.ext_getElem?
        intro j
        by_cases hj : j < 64
        · rw [HL.out.1.2.1 j hj, big_get N j (by omega)]
        · rw [HL.out.2 j (by omega)]
          by_cases hj2 : j < 160
          · rw [big_get 0 j hj2, big_get N j hj2, HT.out j (by omega)]; simp
          · rw [List.getElem?_eq_none (by rw [big_length]; omega), List.getElem?_eq_none (by rw [big_length]; omega)]
      subst hl
      have hB0 := HO.out.blk HB0.out (by omega)
      have hK := HK.out
      have HE := hid (HBE.out.trans (HO.out.below (B := A) (by omega) (by have := HBE.out.size; have := HAW.out; omega)))
      clear HL HK HO HT HS HB0 HBE
      rcases Int.lt_or_le n 0 with hneg | hpos
      · have hV : V = N + 1 := (HX.out.1 hneg).2
        subst hV
        rw [decide_eq_true hneg]
        clear HX
        have hA1 := hK.lt
        have HN1 : Hid (∀ B, B = wr.heap.size → Blk (wr.alloc (.cells (big 0).toArray 37)) A (big 0) 37 ∧ Blk (wr.alloc (.cells (big 0).toArray 37)) (A + 1) (big N) 37 ∧ Blk (wr.alloc (.cells (big 0).toArray 37)) B (big 0) 37 ∧ Below A w (wr.alloc (.cells (big 0).toArray 37))) := by
          rintro B rfl
          exact ⟨hB0.alloc _, hK.alloc _, Blk.new _ _ _, HE.out.alloc (by omega) _⟩
        clear hB0 hK HE
        go_upto_region 12 with (first
          | ((with_reducible refine wpL_new 37 (big 0) (big 0) zv37 rfl ?_ ?_ (size37 0) (big_oneCell 0) ?_); (rfl); (rfl); (simp only [Act.put, List.setIfInBounds_toArray, List.set_cons_zero, List.set_cons_succ])))
        generalize (wr.alloc (.cells (big 0).toArray 37)) = W1 at *
        generalize wr.heap.size = B at *
        obtain ⟨g0, g1, g2, hE1⟩ := HN1.out B rfl
        clear HN1
        have c2 : W1.cell? ⟨B, 0, none⟩ = some (.bool false) := by rw [g2.bit (by omega)]; simp
        have f2 := g2.frozen 0
        have HN2 : Hid (Blk (W1.setCell ⟨B, 0, none⟩ (.bool true)) A (big 0) 37 ∧ Blk (W1.setCell ⟨B, 0, none⟩ (.bool true)) (A + 1) (big N) 37 ∧ Blk (W1.setCell ⟨B, 0, none⟩ (.bool true)) B (big 1) 37 ∧ Below A w (W1.setCell ⟨B, 0, none⟩ (.bool true))) := by
          refine ⟨g0.set_ne _ (by show A ≠ B; omega) _, g1.set_ne _ (by show A + 1 ≠ B; omega) _, ?_, hE1.setCell (by show A ≤ B; omega) _⟩
          have h := g2.set 0 (.bool true)
          rw [big_set] at h; exact h
        clear g0 g1 g2 hE1
        go_upto_region 13 with (fail)
        generalize (W1.setCell ⟨B, 0, none⟩ (.bool true)) = W2 at *
        clear c2 f2
        obtain ⟨g0, g1, g2, hE1⟩ := HN2.out
        clear HN2
        have hr0 := g1.range
        have hr1 := g2.range
        go_wp2_with (first
          | ((with_reducible refine wpL_load 37 (A + 1) 0 (big N) _ ?_ hr0 Try.underlying37 ?_ (size37 N) ?_); (rfl); (rfl); (simp only [Act.put, List.setIfInBounds_toArray, List.set_cons_zero, List.set_cons_succ]))
          | ((with_reducible refine wpL_load 37 B 0 (big 1) _ ?_ hr1 Try.underlying37 ?_ (size37 1) ?_); (rfl); (rfl); (simp only [Act.put, List.setIfInBounds_toArray, List.set_cons_zero, List.set_cons_succ])))
        refine Calls.mono (h37.out _) ?_
        rintro e w3 ⟨rfl, hb3⟩
        have k0 := g0.below hb3 g0.lt
        have k1 := g1.below hb3 g1.lt
        have hth := k1.there 0 (big (N + 1)).length (by rw [big_length, big_length]; omega)
        have hK : Hid (Blk (w3.setCells (A + 1) 0 (big (N + 1))) (A + 1) (big (N + 1)) 37) := by
          have h := Blk.setCells (big (N + 1)) 0 k1 (by rw [big_length, big_length]; omega)
          rw [show over (big N) 0 (big (N + 1)) = big (N + 1) by simp [over, big_length]] at h
          exact h
        have hB0 : Hid (Blk (w3.setCells (A + 1) 0 (big (N + 1))) A (big 0) 37) := k0.setCells_ne (A + 1) (by omega) 0 _
        have HE : Hid (Below A w (w3.setCells (A + 1) 0 (big (N + 1)))) := Below.setCells (hE1.trans (hb3.mono (by have := hE1.size; have := HAW.out; omega))) (by omega) 0 _
        clear hr0 hr1 g0 g1 g2 hE1 k0 k1 hb3 h37
        go_upto_region 14 with (first
          | ((with_reducible refine wpL_store 37 (A + 1) 0 (big (N + 1)) ?_ ?_ hth (size37 (N + 1)) (big_oneCell _) ?_); (rfl); (rfl); (simp only [Act.put])))
        generalize w3.setCells (A + 1) 0 (big (N + 1)) = W3 at *
        clear hth
        obtain ⟨V, hV⟩ : ∃ V, V = N + 1 := ⟨_, rfl⟩
        have HVV := hid hV
        rw [← hV] at hK ⊢
        clear hV
        have hr := hK.out.range
        have hth := hB0.out.there 0 (big V).length (by rw [big_length, big_length]; omega)
        have hbr := Blk.setCells (big V) 0 hB0.out (by rw [big_length, big_length]; omega)
        rw [show over (big 0) 0 (big V) = big V by simp [over, big_length]] at hbr
        have hbf := hid (Below.setCells HE.out (Nat.le_refl A) 0 (big V))
        go_wp2_with (first
          | ((with_reducible refine wpL_load 37 (A + 1) 0 (big V) _ ?_ hr Try.underlying37 ?_ (size37 V) ?_); (rfl); (rfl); (simp only [Act.put, List.setIfInBounds_toArray, List.set_cons_zero, List.set_cons_succ]))
          | ((with_reducible refine wpL_store 37 A 0 (big V) ?_ ?_ hth (size37 V) (big_oneCell V) ?_); (rfl); (rfl); (simp only [Act.put])))
        refine bodyPost_ret (results_cell_tmp (v := .bool true) Try.results26 rfl rfl hbr Try.underlying37 rfl (size37 V)) rfl ⟨by rw [HVV.out, decide_eq_true hneg], by rw [← HAW.out]; exact hbf.out⟩
      · have hV : V = N := (HX.out.2 hpos).2
        subst hV
        rw [decide_eq_false (show ¬ n < 0 by omega)]
        have hr := hK.range
        have hth := hB0.there 0 (big V).length (by rw [big_length, big_length]; omega)
        have hbr := Blk.setCells (big V) 0 hB0 (by rw [big_length, big_length]; omega)
        rw [show over (big 0) 0 (big V) = big V by simp [over, big_length]] at hbr
        have hbf := hid (Below.setCells HE.out (Nat.le_refl A) 0 (big V))
        clear HX
        go_wp2_with (first
          | ((with_reducible refine wpL_load 37 (A + 1) 0 (big V) _ ?_ hr Try.underlying37 ?_ (size37 V) ?_); (rfl); (rfl); (simp only [Act.put, List.setIfInBounds_toArray, List.set_cons_zero, List.set_cons_succ]))
          | ((with_reducible refine wpL_store 37 A 0 (big V) ?_ ?_ hth (size37 V) (big_oneCell V) ?_); (rfl); (rfl); (simp only [Act.put])))
        exact bodyPost_ret (results_cell_tmp (v := .bool false) Try.results26 rfl rfl hbr Try.underlying37 rfl (size37 V)) rfl ⟨by rw [decide_eq_false (show ¬ n < 0 by omega)], by rw [← HAW.out]; exact hbf.out⟩
end Go.Proofs.Ytdfobaggdeoggaa
