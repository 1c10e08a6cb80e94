/- A size with a sign as a number that is held. -/
import Derived.Test.YtdfobaggdeoggaaPlus
import Derived.Deep.DeepCutAuto
namespace Go.Proofs.Ytdfobaggdeoggaa
open Go.RowKit
/-- A whole array is read, under a guard that says yes. -/
theorem wpL_loadG {P : Program} {ops : Array Oper} {rest : List Oper} {Q : Exit → Act → World → Prop} {a : Act} {w : World} {dd : Option Tmp} {x : Operand} {tt : TypeId} {pos : String} {af : Array Edge} {g : Option (Nat × Bool)} (ty : TypeId) (b o : Nat) (cs : List Value) (d : TypeDesc)
    (hw : Region.wanted { dst := dd, op := .load ty x, type := tt, pos := pos, after := af, guard := g } (yielded ops a.tmps) = true)
    (hx : a.eval x = .pointer (some ⟨b, o, none⟩)) (hc : w.rangeAt b o cs) (hu : P.underlying ty = some d) (hd : d.isRow = true) (hi : (P.info? ty).map (·.size) = some cs.length)
    (h : wpList P ops Q rest (a.put dd (.agg cs.toArray)) w) : wpList P ops Q ({ dst := dd, op := .load ty x, type := tt, pos := pos, after := af, guard := g } :: rest) a w :=
  wpList_step fun K hK => by rw [if_pos hw]; exact wp_load_mid ty x rfl b o hx cs d hc hu hd hi (hK _ _ h)
theorem big_set (j : Nat) : (big 0).set j (.bool true) = big (2 ^ j) := by
  apply List.ext_getElem?
  intro i
  by_cases h : i < 160
  · rw [big_get _ i h, List.getElem?_set, big_get 0 i h, Nat.testBit_two_pow]
    by_cases e : j = i
    · subst e; rw [if_pos rfl, if_pos (by rw [big_length]; omega)]; simp
    · rw [if_neg e]; simp [e]
  · rw [List.getElem?_eq_none (by simp [big_length]; omega), List.getElem?_eq_none (by rw [big_length]; omega)]
attribute [local go_sem ↓] zv37
/-- What the signs and the rest make of a size. -/
def more1 (below more : Bool) : Nat := if (below && more) = true then 1 else 0
theorem heldV_cases (a : Nat) (below more : Bool) : heldV a below more = if 9223372036854775808 ≤ a + more1 below more then (if below then -9223372036854775808 else 9223372036854775807) else (if below then -((a + more1 below more : Nat) : Int) else ((a + more1 below more : Nat) : Int)) := by
  unfold heldV hold more1
  cases below <;> cases more <;> simp <;> (repeat' split) <;> omega
theorem half_step (N j n : Nat) (hn : n = N / 2 ^ (j + 1)) (hN : N < 9223372036854775808) : (N.testBit j = false → 2 * n = N / 2 ^ j) ∧ (N.testBit j = true → 2 * n + 1 = N / 2 ^ j ∧ 2 * n + 1 ≤ 9223372036854775807) ∧ 2 * n ≤ 9223372036854775807 := by
  have e1 : N / 2 ^ j / 2 = n := by rw [hn, Nat.div_div_eq_div_mul, Nat.pow_succ]
  have e2 : N / 2 ^ j ≤ N := Nat.div_le_self _ _
  rw [Nat.testBit_eq_decide_div_mod_eq]
  refine ⟨fun h => ?_, fun h => ?_, by omega⟩
  · have := of_decide_eq_false h; omega
  · have := of_decide_eq_true h; omega
set_option maxRecDepth 100000 in
set_option maxHeartbeats 4000000 in
theorem held_any (a : Nat) (ha : a + 1 < 2 ^ 160) (below more : Bool) (w : World) : Calls Try.prog 27 #[.agg (big a).toArray, .bool below, .bool more] w fun e w' => OutI w (heldV a below more) e w' := by
  have h38 : Hid (∀ n W, n < 2 ^ 160 → Calls Try.prog 38 #[.agg (big n).toArray, .agg (big 9223372036854775808).toArray] W fun e w' => e = .returned (.bool (decide (n < 9223372036854775808))) ∧ Below W.heap.size W w') := fun n W hn => less_any n _ hn (by decide) W
  have h37 : Hid (∀ W, Calls Try.prog 37 #[.agg (big a).toArray, .agg (big 1).toArray] W fun e w' => e = .returned (.agg (big (a + 1)).toArray) ∧ Below W.heap.size W w') := plus_any a 1
  have HA := hid ha
  have HV := hid (heldV_cases a below more)
  clear ha
  generalize heldV a below more = V at *
  have hB0 : Blk (((w.alloc (.cells (big a).toArray 37)).alloc (.cells (big 0).toArray 37)).alloc (.cells (big 0).toArray 37)) w.heap.size (big a) 37 := ((Blk.new _ _ _).alloc _).alloc _
  have hB1 : Blk (((w.alloc (.cells (big a).toArray 37)).alloc (.cells (big 0).toArray 37)).alloc (.cells (big 0).toArray 37)) (w.heap.size + 1) (big 0) 37 := (Blk.new' _ _ _ _ (by simp)).alloc _
  have hB2 : Blk (((w.alloc (.cells (big a).toArray 37)).alloc (.cells (big 0).toArray 37)).alloc (.cells (big 0).toArray 37)) (w.heap.size + 2) (big 0) 37 := Blk.new' _ _ _ _ (by simp)
  have hbe : Below w.heap.size w (((w.alloc (.cells (big a).toArray 37)).alloc (.cells (big 0).toArray 37)).alloc (.cells (big 0).toArray 37)) := (((Below.refl _ _).alloc (Nat.le_refl _) _).alloc (by simp) _).alloc (by simp; omega) _
  go_enter Try.func27, Try.ntmps27
  go_upto_region 2 with (fail)
  generalize (((w.alloc (.cells (big a).toArray 37)).alloc (.cells (big 0).toArray 37)).alloc (.cells (big 0).toArray 37)) = W at *
  obtain ⟨A, hA⟩ : ∃ A, A = w.heap.size := ⟨_, rfl⟩
  rw [← hA] at hB0 hB1 hB2 hbe
  simp only [← hA, show A + 1 + 1 = A + 2 from rfl]
  have HAW := hid hA
  clear hA
  have c1 : W.cell? ⟨A + 1, 0, none⟩ = some (.bool false) := by rw [hB1.bit (by omega)]; simp
  have f1 := hB1.frozen 0
  have c2 : W.cell? ⟨A + 2, 63, none⟩ = some (.bool false) := by rw [hB2.bit (by omega)]; simp
  have f2 := hB2.frozen 63
  have H2 : Hid (Blk ((W.setCell ⟨A + 1, 0, none⟩ (.bool true)).setCell ⟨A + 2, 63, none⟩ (.bool true)) A (big a) 37 ∧ Blk ((W.setCell ⟨A + 1, 0, none⟩ (.bool true)).setCell ⟨A + 2, 63, none⟩ (.bool true)) (A + 1) (big 1) 37 ∧ Blk ((W.setCell ⟨A + 1, 0, none⟩ (.bool true)).setCell ⟨A + 2, 63, none⟩ (.bool true)) (A + 2) (big 9223372036854775808) 37 ∧ Below A w ((W.setCell ⟨A + 1, 0, none⟩ (.bool true)).setCell ⟨A + 2, 63, none⟩ (.bool true))) := by
    refine ⟨(hB0.set_ne _ (by show A ≠ A + 1; omega) _).set_ne _ (by show A ≠ A + 2; omega) _, ?_, ?_, ?_⟩
    · have h := (hB1.set 0 (.bool true)).set_ne ⟨A + 2, 63, none⟩ (by show A + 1 ≠ A + 2; omega) (.bool true)
      rw [big_set] at h; exact h
    · have h := (hB2.set_ne ⟨A + 1, 0, none⟩ (by show A + 2 ≠ A + 1; omega) (.bool true)).set 63 (.bool true)
      rw [big_set] at h; exact h
    · exact (hbe.setCell (by show A ≤ A + 1; omega) _).setCell (by show A ≤ A + 2; omega) _
  clear hB0 hB1 hB2 hbe
  go_upto_region 4 with (fail)
  generalize ((W.setCell ⟨A + 1, 0, none⟩ (.bool true)).setCell ⟨A + 2, 63, none⟩ (.bool true)) = W2 at *
  clear c1 f1 c2 f2
  obtain ⟨hB0, hB1, hB2, hbe⟩ := H2.out
  clear H2
  cases below <;> cases more
  · go_upto_region 6 with (fail)
    have HE := hid hbe
    have hK := hB0
    have hE := hB2
    clear hB0 hB2
    obtain ⟨N, hN⟩ : ∃ N, N = a := ⟨_, rfl⟩
    have HN0 : Hid (N < 2 ^ 160) := by rw [hN]; exact Nat.lt_of_succ_lt HA.out
    replace HV : Hid (V = if 9223372036854775808 ≤ N then (if false = true then -9223372036854775808 else 9223372036854775807) else (if false = true then -(N : Int) else (N : Int))) := by rw [hN]; exact HV.out
    rw [← hN] at hK
    clear h37 HA hN hbe hB1
    have hrN := hK.range
    have hrE := hE.range
    have hc := hid (h38.out N W2 HN0.out)
    go_wp2_with (first
      | ((with_reducible refine wpL_loadG 37 A 0 (big N) _ ?_ ?_ hrN Try.underlying37 ?_ (size37 N) ?_); (rfl); (rfl); (rfl); (simp only [Act.put, List.setIfInBounds_toArray, List.set_cons_zero, List.set_cons_succ]))
      | ((with_reducible refine wpL_loadG 37 (A + 2) 0 (big 9223372036854775808) _ ?_ ?_ hrE Try.underlying37 ?_ (size37 _) ?_); (rfl); (rfl); (rfl); (simp only [Act.put, List.setIfInBounds_toArray, List.set_cons_zero, List.set_cons_succ])))
    refine Calls.mono hc.out ?_
    rintro e W4 ⟨rfl, hb4⟩
    have hK4 := hK.below hb4 hK.lt
    have HE4 := hid (HE.out.trans (hb4.mono (by have := HE.out.size; have := HAW.out; omega)))
    rw [HAW.out] at HE4
    clear hrN hrE hc hK hE hb4
    by_cases hbig : 9223372036854775808 ≤ N
    · have hd : decide (N < 9223372036854775808) = false := decide_eq_false (by omega)
      rw [hd]
      clear hK4
      go_wp2
      go_ret
      refine ⟨?_, HE4.out⟩
      rw [HV.out, if_pos hbig]; rfl
    · have hd : decide (N < 9223372036854775808) = true := decide_eq_true (by omega)
      rw [hd]
      have hA63 : N < 9223372036854775808 := by omega
      have HN := hid hA63
      have hcell : Hid (∀ j, j < 160 → W4.cell? ⟨A, j, none⟩ = some (.bool (N.testBit j))) := fun j hj => hK4.bit hj
      clear h38 hK4
      go_wp2
      go_loopw [9, 10] (fun nv iv wr => ∃ k n : Nat, k ≤ 63 ∧ nv = .int .i64 (n : Int) ∧ iv = .int .i64 ((k : Int) - 1) ∧ n < 9223372036854775808 ∧ Hid (n = N / 2 ^ k) ∧ wr = W4) (fun _ iv _ => (intOf iv + 1).toNat)
      case atStart => exact ⟨63, 0, by omega, rfl, rfl, by omega, by show _ = _; rw [Nat.div_eq_of_lt]; exact HN.out, rfl⟩
      case round =>
        obtain ⟨k, n, hk, rfl, rfl, hn, HD, rfl⟩ := hrel
        by_cases hk0 : 0 < k
        · obtain ⟨j, rfl⟩ : ∃ j, k = j + 1 := ⟨k - 1, by omega⟩
          have ei : ((j + 1 : Nat) : Int) - 1 = (j : Int) := by omega
          rw [ei]
          have e0 : (0 : Int) ≤ (j : Int) := by omega
          have e1 : (j : Int) < 160 := by omega
          have c0 := hcell.out j (by omega)
          obtain ⟨h1, h2, h3⟩ := half_step N j n HD.out HN.out
          clear HD
          have b1 : IntKind.i64.wrap (2 * (n : Int)) = 2 * (n : Int) := by rw [IntKind.wrap_i64]; omega
          have H1 := hid h1
          have H2 := hid h2
          clear h1 h2
          generalize N.testBit j = x at *
          cases x
          · go_wp2
            exact ⟨⟨j, 2 * n, by omega, by simp, rfl, by omega, H1.out rfl, trivial⟩, by simp only [intOf]; omega⟩
          · have b2 : IntKind.i64.wrap (2 * (n : Int) + 1) = 2 * (n : Int) + 1 := by have := H2.out rfl; rw [IntKind.wrap_i64]; omega
            go_wp2
            exact ⟨⟨j, 2 * n + 1, by omega, by simp, rfl, by have := (H2.out rfl).2; omega, (H2.out rfl).1, trivial⟩, by simp only [intOf]; omega⟩
        · obtain rfl : k = 0 := by omega
          obtain rfl : n = N := by have := HD.out; rw [this, Nat.pow_zero, Nat.div_one]
          have b3 : IntKind.i64.wrap (-(n : Int)) = -(n : Int) := by rw [IntKind.wrap_i64]; omega
          clear HD HN hcell
          go_wp2
          go_ret
          refine ⟨?_, HE4.out⟩
          rw [HV.out, if_neg (by omega)]; rfl
  · go_upto_region 6 with (fail)
    have HE := hid hbe
    have hK := hB0
    have hE := hB2
    clear hB0 hB2
    obtain ⟨N, hN⟩ : ∃ N, N = a := ⟨_, rfl⟩
    have HN0 : Hid (N < 2 ^ 160) := by rw [hN]; exact Nat.lt_of_succ_lt HA.out
    replace HV : Hid (V = if 9223372036854775808 ≤ N then (if false = true then -9223372036854775808 else 9223372036854775807) else (if false = true then -(N : Int) else (N : Int))) := by rw [hN]; exact HV.out
    rw [← hN] at hK
    clear h37 HA hN hbe hB1
    have hrN := hK.range
    have hrE := hE.range
    have hc := hid (h38.out N W2 HN0.out)
    go_wp2_with (first
      | ((with_reducible refine wpL_loadG 37 A 0 (big N) _ ?_ ?_ hrN Try.underlying37 ?_ (size37 N) ?_); (rfl); (rfl); (rfl); (simp only [Act.put, List.setIfInBounds_toArray, List.set_cons_zero, List.set_cons_succ]))
      | ((with_reducible refine wpL_loadG 37 (A + 2) 0 (big 9223372036854775808) _ ?_ ?_ hrE Try.underlying37 ?_ (size37 _) ?_); (rfl); (rfl); (rfl); (simp only [Act.put, List.setIfInBounds_toArray, List.set_cons_zero, List.set_cons_succ])))
    refine Calls.mono hc.out ?_
    rintro e W4 ⟨rfl, hb4⟩
    have hK4 := hK.below hb4 hK.lt
    have HE4 := hid (HE.out.trans (hb4.mono (by have := HE.out.size; have := HAW.out; omega)))
    rw [HAW.out] at HE4
    clear hrN hrE hc hK hE hb4
    by_cases hbig : 9223372036854775808 ≤ N
    · have hd : decide (N < 9223372036854775808) = false := decide_eq_false (by omega)
      rw [hd]
      clear hK4
      go_wp2
      go_ret
      refine ⟨?_, HE4.out⟩
      rw [HV.out, if_pos hbig]; rfl
    · have hd : decide (N < 9223372036854775808) = true := decide_eq_true (by omega)
      rw [hd]
      have hA63 : N < 9223372036854775808 := by omega
      have HN := hid hA63
      have hcell : Hid (∀ j, j < 160 → W4.cell? ⟨A, j, none⟩ = some (.bool (N.testBit j))) := fun j hj => hK4.bit hj
      clear h38 hK4
      go_wp2
      go_loopw [9, 10] (fun nv iv wr => ∃ k n : Nat, k ≤ 63 ∧ nv = .int .i64 (n : Int) ∧ iv = .int .i64 ((k : Int) - 1) ∧ n < 9223372036854775808 ∧ Hid (n = N / 2 ^ k) ∧ wr = W4) (fun _ iv _ => (intOf iv + 1).toNat)
      case atStart => exact ⟨63, 0, by omega, rfl, rfl, by omega, by show _ = _; rw [Nat.div_eq_of_lt]; exact HN.out, rfl⟩
      case round =>
        obtain ⟨k, n, hk, rfl, rfl, hn, HD, rfl⟩ := hrel
        by_cases hk0 : 0 < k
        · obtain ⟨j, rfl⟩ : ∃ j, k = j + 1 := ⟨k - 1, by omega⟩
          have ei : ((j + 1 : Nat) : Int) - 1 = (j : Int) := by omega
          rw [ei]
          have e0 : (0 : Int) ≤ (j : Int) := by omega
          have e1 : (j : Int) < 160 := by omega
          have c0 := hcell.out j (by omega)
          obtain ⟨h1, h2, h3⟩ := half_step N j n HD.out HN.out
          clear HD
          have b1 : IntKind.i64.wrap (2 * (n : Int)) = 2 * (n : Int) := by rw [IntKind.wrap_i64]; omega
          have H1 := hid h1
          have H2 := hid h2
          clear h1 h2
          generalize N.testBit j = x at *
          cases x
          · go_wp2
            exact ⟨⟨j, 2 * n, by omega, by simp, rfl, by omega, H1.out rfl, trivial⟩, by simp only [intOf]; omega⟩
          · have b2 : IntKind.i64.wrap (2 * (n : Int) + 1) = 2 * (n : Int) + 1 := by have := H2.out rfl; rw [IntKind.wrap_i64]; omega
            go_wp2
            exact ⟨⟨j, 2 * n + 1, by omega, by simp, rfl, by have := (H2.out rfl).2; omega, (H2.out rfl).1, trivial⟩, by simp only [intOf]; omega⟩
        · obtain rfl : k = 0 := by omega
          obtain rfl : n = N := by have := HD.out; rw [this, Nat.pow_zero, Nat.div_one]
          have b3 : IntKind.i64.wrap (-(n : Int)) = -(n : Int) := by rw [IntKind.wrap_i64]; omega
          clear HD HN hcell
          go_wp2
          go_ret
          refine ⟨?_, HE4.out⟩
          rw [HV.out, if_neg (by omega)]; rfl
  · go_upto_region 6 with (fail)
    have HE := hid hbe
    have hK := hB0
    have hE := hB2
    clear hB0 hB2
    obtain ⟨N, hN⟩ : ∃ N, N = a := ⟨_, rfl⟩
    have HN0 : Hid (N < 2 ^ 160) := by rw [hN]; exact Nat.lt_of_succ_lt HA.out
    replace HV : Hid (V = if 9223372036854775808 ≤ N then (if true = true then -9223372036854775808 else 9223372036854775807) else (if true = true then -(N : Int) else (N : Int))) := by rw [hN]; exact HV.out
    rw [← hN] at hK
    clear h37 HA hN hbe hB1
    have hrN := hK.range
    have hrE := hE.range
    have hc := hid (h38.out N W2 HN0.out)
    go_wp2_with (first
      | ((with_reducible refine wpL_loadG 37 A 0 (big N) _ ?_ ?_ hrN Try.underlying37 ?_ (size37 N) ?_); (rfl); (rfl); (rfl); (simp only [Act.put, List.setIfInBounds_toArray, List.set_cons_zero, List.set_cons_succ]))
      | ((with_reducible refine wpL_loadG 37 (A + 2) 0 (big 9223372036854775808) _ ?_ ?_ hrE Try.underlying37 ?_ (size37 _) ?_); (rfl); (rfl); (rfl); (simp only [Act.put, List.setIfInBounds_toArray, List.set_cons_zero, List.set_cons_succ])))
    refine Calls.mono hc.out ?_
    rintro e W4 ⟨rfl, hb4⟩
    have hK4 := hK.below hb4 hK.lt
    have HE4 := hid (HE.out.trans (hb4.mono (by have := HE.out.size; have := HAW.out; omega)))
    rw [HAW.out] at HE4
    clear hrN hrE hc hK hE hb4
    by_cases hbig : 9223372036854775808 ≤ N
    · have hd : decide (N < 9223372036854775808) = false := decide_eq_false (by omega)
      rw [hd]
      clear hK4
      go_wp2
      go_ret
      refine ⟨?_, HE4.out⟩
      rw [HV.out, if_pos hbig]; rfl
    · have hd : decide (N < 9223372036854775808) = true := decide_eq_true (by omega)
      rw [hd]
      have hA63 : N < 9223372036854775808 := by omega
      have HN := hid hA63
      have hcell : Hid (∀ j, j < 160 → W4.cell? ⟨A, j, none⟩ = some (.bool (N.testBit j))) := fun j hj => hK4.bit hj
      clear h38 hK4
      go_wp2
      go_loopw [9, 10] (fun nv iv wr => ∃ k n : Nat, k ≤ 63 ∧ nv = .int .i64 (n : Int) ∧ iv = .int .i64 ((k : Int) - 1) ∧ n < 9223372036854775808 ∧ Hid (n = N / 2 ^ k) ∧ wr = W4) (fun _ iv _ => (intOf iv + 1).toNat)
      case atStart => exact ⟨63, 0, by omega, rfl, rfl, by omega, by show _ = _; rw [Nat.div_eq_of_lt]; exact HN.out, rfl⟩
      case round =>
        obtain ⟨k, n, hk, rfl, rfl, hn, HD, rfl⟩ := hrel
        by_cases hk0 : 0 < k
        · obtain ⟨j, rfl⟩ : ∃ j, k = j + 1 := ⟨k - 1, by omega⟩
          have ei : ((j + 1 : Nat) : Int) - 1 = (j : Int) := by omega
          rw [ei]
          have e0 : (0 : Int) ≤ (j : Int) := by omega
          have e1 : (j : Int) < 160 := by omega
          have c0 := hcell.out j (by omega)
          obtain ⟨h1, h2, h3⟩ := half_step N j n HD.out HN.out
          clear HD
          have b1 : IntKind.i64.wrap (2 * (n : Int)) = 2 * (n : Int) := by rw [IntKind.wrap_i64]; omega
          have H1 := hid h1
          have H2 := hid h2
          clear h1 h2
          generalize N.testBit j = x at *
          cases x
          · go_wp2
            exact ⟨⟨j, 2 * n, by omega, by simp, rfl, by omega, H1.out rfl, trivial⟩, by simp only [intOf]; omega⟩
          · have b2 : IntKind.i64.wrap (2 * (n : Int) + 1) = 2 * (n : Int) + 1 := by have := H2.out rfl; rw [IntKind.wrap_i64]; omega
            go_wp2
            exact ⟨⟨j, 2 * n + 1, by omega, by simp, rfl, by have := (H2.out rfl).2; omega, (H2.out rfl).1, trivial⟩, by simp only [intOf]; omega⟩
        · obtain rfl : k = 0 := by omega
          obtain rfl : n = N := by have := HD.out; rw [this, Nat.pow_zero, Nat.div_one]
          have b3 : IntKind.i64.wrap (-(n : Int)) = -(n : Int) := by rw [IntKind.wrap_i64]; omega
          clear HD HN hcell
          go_wp2
          go_ret
          refine ⟨?_, HE4.out⟩
          rw [HV.out, if_neg (by omega)]; rfl
  · have hr0 := hB0.range
    have hr1 := hB1.range
    go_wp2_with (first
      | ((with_reducible refine wpL_load 37 A 0 (big a) _ ?_ hr0 Try.underlying37 ?_ (size37 a) ?_); (rfl); (rfl); (simp only [Act.put, List.setIfInBounds_toArray, List.set_cons_zero, List.set_cons_succ]))
      | ((with_reducible refine wpL_load 37 (A + 1) 0 (big 1) _ ?_ hr1 Try.underlying37 ?_ (size37 1) ?_); (rfl); (rfl); (simp only [Act.put, List.setIfInBounds_toArray, List.set_cons_zero, List.set_cons_succ])))
    refine Calls.mono (h37.out _) ?_
    rintro e w3 ⟨rfl, hb3⟩
    have hK3 := hB0.below hb3 hB0.lt
    have hE3 := hB2.below hb3 hB2.lt
    have hth := hK3.there 0 (big (a + 1)).length (by rw [big_length, big_length]; omega)
    have hK : Hid (Blk (w3.setCells A 0 (big (a + 1))) A (big (a + 1)) 37) := by
      have h := Blk.setCells (big (a + 1)) 0 hK3 (by rw [big_length, big_length]; omega)
      rw [show over (big a) 0 (big (a + 1)) = big (a + 1) by simp [over, big_length]] at h
      exact h
    have hE : Hid (Blk (w3.setCells A 0 (big (a + 1))) (A + 2) (big 9223372036854775808) 37) := hE3.setCells_ne A (by omega) 0 _
    have HE : Hid (Below A w (w3.setCells A 0 (big (a + 1)))) := Below.setCells (hbe.trans (hb3.mono (by have := hbe.size; have := HAW.out; omega))) (Nat.le_refl _) 0 _
    clear hr0 hr1 hB0 hB1 hB2 hbe hK3 hE3 hb3
    go_upto_region 6 with (first
      | ((with_reducible refine wpL_store 37 A 0 (big (a + 1)) ?_ ?_ hth (size37 (a + 1)) (big_oneCell _) ?_); (rfl); (rfl); (simp only [Act.put])))
    generalize w3.setCells A 0 (big (a + 1)) = W3 at *
    obtain ⟨N, hN⟩ : ∃ N, N = a + 1 := ⟨_, rfl⟩
    have HN0 : Hid (N < 2 ^ 160) := by rw [hN]; exact HA.out
    replace HV : Hid (V = if 9223372036854775808 ≤ N then (if true = true then -9223372036854775808 else 9223372036854775807) else (if true = true then -(N : Int) else (N : Int))) := by rw [hN]; exact HV.out
    rw [← hN] at hK
    replace hK := hK.out
    replace hE := hE.out
    clear h37 HA hN
    have hrN := hK.range
    have hrE := hE.range
    have hc := hid (h38.out N W3 HN0.out)
    go_wp2_with (first
      | ((with_reducible refine wpL_loadG 37 A 0 (big N) _ ?_ ?_ hrN Try.underlying37 ?_ (size37 N) ?_); (rfl); (rfl); (rfl); (simp only [Act.put, List.setIfInBounds_toArray, List.set_cons_zero, List.set_cons_succ]))
      | ((with_reducible refine wpL_loadG 37 (A + 2) 0 (big 9223372036854775808) _ ?_ ?_ hrE Try.underlying37 ?_ (size37 _) ?_); (rfl); (rfl); (rfl); (simp only [Act.put, List.setIfInBounds_toArray, List.set_cons_zero, List.set_cons_succ])))
    refine Calls.mono hc.out ?_
    rintro e W4 ⟨rfl, hb4⟩
    have hK4 := hK.below hb4 hK.lt
    have HE4 := hid (HE.out.trans (hb4.mono (by have := HE.out.size; have := HAW.out; omega)))
    rw [HAW.out] at HE4
    clear hrN hrE hc hK hE hb4
    by_cases hbig : 9223372036854775808 ≤ N
    · have hd : decide (N < 9223372036854775808) = false := decide_eq_false (by omega)
      rw [hd]
      clear hK4
      go_wp2
      go_ret
      refine ⟨?_, HE4.out⟩
      rw [HV.out, if_pos hbig]; rfl
    · have hd : decide (N < 9223372036854775808) = true := decide_eq_true (by omega)
      rw [hd]
      have hA63 : N < 9223372036854775808 := by omega
      have HN := hid hA63
      have hcell : Hid (∀ j, j < 160 → W4.cell? ⟨A, j, none⟩ = some (.bool (N.testBit j))) := fun j hj => hK4.bit hj
      clear h38 hK4
      go_wp2
      go_loopw [9, 10] (fun nv iv wr => ∃ k n : Nat, k ≤ 63 ∧ nv = .int .i64 (n : Int) ∧ iv = .int .i64 ((k : Int) - 1) ∧ n < 9223372036854775808 ∧ Hid (n = N / 2 ^ k) ∧ wr = W4) (fun _ iv _ => (intOf iv + 1).toNat)
      case atStart => exact ⟨63, 0, by omega, rfl, rfl, by omega, by show _ = _; rw [Nat.div_eq_of_lt]; exact HN.out, rfl⟩
      case round =>
        obtain ⟨k, n, hk, rfl, rfl, hn, HD, rfl⟩ := hrel
        by_cases hk0 : 0 < k
        · obtain ⟨j, rfl⟩ : ∃ j, k = j + 1 := ⟨k - 1, by omega⟩
          have ei : ((j + 1 : Nat) : Int) - 1 = (j : Int) := by omega
          rw [ei]
          have e0 : (0 : Int) ≤ (j : Int) := by omega
          have e1 : (j : Int) < 160 := by omega
          have c0 := hcell.out j (by omega)
          obtain ⟨h1, h2, h3⟩ := half_step N j n HD.out HN.out
          clear HD
          have b1 : IntKind.i64.wrap (2 * (n : Int)) = 2 * (n : Int) := by rw [IntKind.wrap_i64]; omega
          have H1 := hid h1
          have H2 := hid h2
          clear h1 h2
          generalize N.testBit j = x at *
          cases x
          · go_wp2
            exact ⟨⟨j, 2 * n, by omega, by simp, rfl, by omega, H1.out rfl, trivial⟩, by simp only [intOf]; omega⟩
          · have b2 : IntKind.i64.wrap (2 * (n : Int) + 1) = 2 * (n : Int) + 1 := by have := H2.out rfl; rw [IntKind.wrap_i64]; omega
            go_wp2
            exact ⟨⟨j, 2 * n + 1, by omega, by simp, rfl, by have := (H2.out rfl).2; omega, (H2.out rfl).1, trivial⟩, by simp only [intOf]; omega⟩
        · obtain rfl : k = 0 := by omega
          obtain rfl : n = N := by have := HD.out; rw [this, Nat.pow_zero, Nat.div_one]
          have b3 : IntKind.i64.wrap (-(n : Int)) = -(n : Int) := by rw [IntKind.wrap_i64]; omega
          clear HD HN hcell
          go_wp2
          go_ret
          refine ⟨?_, HE4.out⟩
          rw [HV.out, if_neg (by omega)]; rfl
end Go.Proofs.Ytdfobaggdeoggaa
