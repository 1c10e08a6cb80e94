/- Sums and differences of numbers of 160 bits. -/
import Derived.Test.YtdfobaggdeoggaaBig
namespace Go.Proofs.Ytdfobaggdeoggaa
open Go.RowKit
def cry (a b i : Nat) : Bool := BitVec.carry i (BitVec.ofNat 160 a) (BitVec.ofNat 160 b) false
theorem bit_of (a i : Nat) (hi : i < 160) : (BitVec.ofNat 160 a).getLsbD i = a.testBit i := by
  rw [BitVec.getLsbD_ofNat, decide_eq_true hi]; simp
theorem add_bit (a b i : Nat) (hi : i < 160) : (a + b).testBit i = (a.testBit i ^^ (b.testBit i ^^ cry a b i)) := by
  have h := BitVec.getLsbD_add hi (BitVec.ofNat 160 a) (BitVec.ofNat 160 b)
  rw [← BitVec.ofNat_add, bit_of _ _ hi, bit_of _ _ hi, bit_of _ _ hi] at h
  exact h
theorem cry_zero (a b : Nat) : cry a b 0 = false := by simp [cry]
theorem cry_succ (a b i : Nat) (hi : i < 160) : cry a b (i + 1) = Bool.atLeastTwo (a.testBit i) (b.testBit i) (cry a b i) := by
  unfold cry
  rw [BitVec.carry_succ, bit_of _ _ hi, bit_of _ _ hi]
/-- The borrow of a - b. -/
def bor (a b i : Nat) : Bool := !BitVec.carry i (BitVec.ofNat 160 a) (~~~ BitVec.ofNat 160 b) true
theorem bor_zero (a b : Nat) : bor a b 0 = false := by simp [bor]
theorem not_bit (b i : Nat) (hi : i < 160) : (~~~ BitVec.ofNat 160 b).getLsbD i = !b.testBit i := by
  rw [BitVec.getLsbD_not, bit_of _ _ hi, decide_eq_true hi]; simp
theorem bor_succ (a b i : Nat) (hi : i < 160) : bor a b (i + 1) = ((!a.testBit i && b.testBit i) || (bor a b i && (a.testBit i == b.testBit i))) := by
  unfold bor
  rw [BitVec.carry_succ, bit_of _ _ hi, not_bit _ _ hi]
  generalize a.testBit i = x
  generalize b.testBit i = y
  generalize BitVec.carry i _ _ _ = c
  cases x <;> cases y <;> cases c <;> rfl
theorem sub_bit (a b i : Nat) (hab : b ≤ a) (ha : a < 2 ^ 160) (hi : i < 160) : (a - b).testBit i = (a.testBit i ^^ (b.testBit i ^^ bor a b i)) := by
  have h := BitVec.getLsbD_add_add_bool hi (BitVec.ofNat 160 a) (~~~ BitVec.ofNat 160 b) true
  have e : BitVec.ofNat 160 a + ~~~ BitVec.ofNat 160 b + BitVec.setWidth 160 (BitVec.ofBool true) = BitVec.ofNat 160 (a - b) := by
    have e1 : BitVec.setWidth 160 (BitVec.ofBool true) = 1#160 := rfl
    rw [e1, BitVec.add_assoc, ← BitVec.neg_eq_not_add, ← BitVec.sub_eq_add_neg]
    apply BitVec.eq_of_toNat_eq
    have hb : b < 2 ^ 160 := by omega
    rw [BitVec.toNat_sub, BitVec.toNat_ofNat, BitVec.toNat_ofNat, BitVec.toNat_ofNat, Nat.mod_eq_of_lt ha, Nat.mod_eq_of_lt hb, Nat.mod_eq_of_lt (show a - b < 2 ^ 160 by omega)]
    rw [show 2 ^ 160 - b + a = 2 ^ 160 + (a - b) by omega, Nat.add_mod_left, Nat.mod_eq_of_lt (by omega)]
  rw [e, bit_of _ _ hi, bit_of _ _ hi, not_bit _ _ hi] at h
  rw [h]
  unfold bor
  generalize a.testBit i = x
  generalize b.testBit i = y
  generalize BitVec.carry i _ _ _ = c
  cases x <;> cases y <;> cases c <;> rfl
attribute [local go_sem ↓] zv37
set_option maxRecDepth 100000 in
set_option maxHeartbeats 4000000 in
theorem plus_any (a b : Nat) (w : World) : Calls Try.prog 37 #[.agg (big a).toArray, .agg (big b).toArray] w fun e w' => e = .returned (.agg (big (a + b)).toArray) ∧ Below w.heap.size w w' := by
  obtain ⟨N, hN⟩ : ∃ N, N = a + b := ⟨_, rfl⟩
  have HT : Hid (∀ i, i < 160 → N.testBit i = ((a.testBit i != b.testBit i) != cry a b i)) := fun i hi => by
    rw [hN, add_bit _ _ _ hi]
    cases a.testBit i <;> cases b.testBit i <;> cases cry a b i <;> rfl
  rw [← hN]
  clear hN
  have hB0 : Blk ((((w.alloc (.cells (big a).toArray 37)).alloc (.cells (big b).toArray 37)).alloc (.cells (big 0).toArray 37)).alloc (.cells (big 0).toArray 37)) w.heap.size (big a) 37 := (((Blk.new _ _ _).alloc _).alloc _).alloc _
  have hB1 : Blk ((((w.alloc (.cells (big a).toArray 37)).alloc (.cells (big b).toArray 37)).alloc (.cells (big 0).toArray 37)).alloc (.cells (big 0).toArray 37)) (w.heap.size + 1) (big b) 37 := ((Blk.new' _ _ _ _ (by simp)).alloc _).alloc _
  have hB2 : Blk ((((w.alloc (.cells (big a).toArray 37)).alloc (.cells (big b).toArray 37)).alloc (.cells (big 0).toArray 37)).alloc (.cells (big 0).toArray 37)) (w.heap.size + 2) (big 0) 37 := (Blk.new' _ _ _ _ (by simp)).alloc _
  have hB3 : Blk ((((w.alloc (.cells (big a).toArray 37)).alloc (.cells (big b).toArray 37)).alloc (.cells (big 0).toArray 37)).alloc (.cells (big 0).toArray 37)) (w.heap.size + 3) (big 0) 37 := Blk.new' _ _ _ _ (by simp)
  have hbe : Below w.heap.size w ((((w.alloc (.cells (big a).toArray 37)).alloc (.cells (big b).toArray 37)).alloc (.cells (big 0).toArray 37)).alloc (.cells (big 0).toArray 37)) := ((((Below.refl _ _).alloc (Nat.le_refl _) _).alloc (by simp) _).alloc (by simp; omega) _).alloc (by simp; omega) _
  go_enter Try.func37, Try.ntmps37
  go_wp2
  generalize ((((w.alloc (.cells (big a).toArray 37)).alloc (.cells (big b).toArray 37)).alloc (.cells (big 0).toArray 37)).alloc (.cells (big 0).toArray 37)) = W at *
  obtain ⟨A, hA⟩ : ∃ A, A = w.heap.size := ⟨_, rfl⟩
  rw [← hA] at hB0 hB1 hB2 hB3 hbe
  simp only [← hA, show A + 1 + 1 = A + 2 from rfl, show A + 2 + 1 = A + 3 from rfl]
  have HAW := hid hA
  clear hA
  have HB0 := hid hB0
  have HB1 := hid hB1
  have HB2 := hid hB2
  have HBE := hid hbe
  clear hB0 hB1 hB2 hbe
  go_loopw [6, 7] (fun cv iv wr => ∃ (i : Nat) (l : List Value) (c : Bool), iv = .int .i64 (i : Nat) ∧ cv = .bool c ∧ i ≤ 160 ∧ Hid (cry a b i = c) ∧ Hid (Part N i l) ∧ Hid (Blk wr (A + 3) l 37) ∧ Hid (Only (A + 3) W wr)) (fun _ iv _ => 160 - (intOf iv).toNat)
  case atStart => exact ⟨0, big 0, false, rfl, rfl, by omega, cry_zero a b, Part.start N, hB3, Only.refl _ _⟩
  case round =>
    clear hB3
    obtain ⟨i, l, c, rfl, rfl, hi, HC, HL, HK, HO⟩ := hrel
    by_cases hlt : i < 160
    · have e1 : (i : Int) < 160 := by omega
      have e0 : (0 : Int) ≤ (i : Int) := by omega
      have c0 := (HO.out.blk HB0.out (by omega)).bit (j := i) hlt
      have c1 := (HO.out.blk HB1.out (by omega)).bit (j := i) hlt
      obtain ⟨d, hd⟩ := HL.out.2.2 i hlt
      have c3 : wr.cell? ⟨A + 3, i, none⟩ = some (.bool d) := by rw [HK.out.cell]; exact hd
      have f3 := HK.out.frozen i
      have HP := hid (HL.out.step hlt)
      have hbit := HT.out i hlt
      have HS := hid (cry_succ a b i hlt)
      rw [HC.out] at HS hbit
      rw [hbit] at HP
      generalize a.testBit i = x at *
      generalize b.testBit i = y at *
      have HK2 : Hid (∀ b', b' = A + 3 → ∀ v, v = Value.bool ((x != y) != c) → Blk (wr.setCell ⟨b', i, none⟩ v).drew (A + 3) (l.set i (.bool ((x != y) != c))) 37 ∧ Only (A + 3) W (wr.setCell ⟨b', i, none⟩ v).drew ∧ (wr.setCell ⟨b', i, none⟩ v).drew.cell? ⟨A, i, none⟩ = some (.bool x) ∧ (wr.setCell ⟨b', i, none⟩ v).drew.cell? ⟨A + 1, i, none⟩ = some (.bool y)) := by
        rintro b' rfl v rfl
        exact ⟨(HK.out.set _ _).drew, (HO.out.setCell _ _).drew, keepCell c0 (by omega) _ _, keepCell c1 (by omega) _ _⟩
      clear hbit hd HL HK HO HT HC
      cases x <;> cases y <;> cases c
      all_goals (
        simp only [Bool.bne_false, Bool.bne_true, Bool.not_true, Bool.not_false] at HP HK2
        go_wp2
        go_region
        obtain ⟨hK3, ho3, d0, d1⟩ := HK2.out _ rfl _ rfl
        generalize (wr.setCell _ _).drew = W3 at *
        clear HK2 c0 c1 c3 f3
        go_wp2
        exact ⟨⟨i + 1, _, _, by simp, rfl, by omega, HS, HP, hK3, ho3⟩, by simp only [intOf]; omega⟩)
    · obtain rfl : i = 160 := by omega
      have hl := HL.out.whole
      subst hl
      have hr := HK.out.range
      have hB1 := HO.out.blk HB2.out (by omega)
      have hth := hB1.there 0 (big N).length (by rw [big_length, big_length]; omega)
      have hbr := Blk.setCells (big N) 0 hB1 (by rw [big_length, big_length]; omega)
      rw [show over (big 0) 0 (big N) = big N by simp [over, big_length]] at hbr
      have hbf := Below.setCells (HBE.out.trans (HO.out.below (B := A) (by omega) (by have := HBE.out.size; have := HAW.out; omega))) (b := A + 2) (by omega) 0 (big N)
      have hone := hid (big_oneCell N)
      have hi37 := size37 N
      clear HL HK HO HT
      go_wp2_with (first
        | ((with_reducible refine wpL_load 37 (A + 3) 0 (big N) _ ?_ hr Try.underlying37 ?_ hi37 ?_); (rfl); (rfl); (simp only [Act.put, List.setIfInBounds_toArray, List.set_cons_zero, List.set_cons_succ]))
        | ((with_reducible refine wpL_store 37 (A + 2) 0 (big N) ?_ ?_ hth hi37 hone.out ?_); (rfl); (rfl); (simp only [Act.put])))
      exact bodyPost_ret (results_array Try.results37 rfl hbr Try.underlying37 rfl hi37) rfl ⟨rfl, by rw [← HAW.out]; exact hbf⟩
set_option maxRecDepth 100000 in
set_option maxHeartbeats 4000000 in
theorem minus_any (a b : Nat) (hab : b ≤ a) (ha : a < 2 ^ 160) (w : World) : Calls Try.prog 39 #[.agg (big a).toArray, .agg (big b).toArray] w fun e w' => e = .returned (.agg (big (a - b)).toArray) ∧ Below w.heap.size w w' := by
  obtain ⟨N, hN⟩ : ∃ N, N = a - b := ⟨_, rfl⟩
  have HT : Hid (∀ i, i < 160 → N.testBit i = ((a.testBit i != b.testBit i) != bor a b i)) := fun i hi => by
    rw [hN, sub_bit _ _ _ hab ha hi]
    cases a.testBit i <;> cases b.testBit i <;> cases bor a b i <;> rfl
  rw [← hN]
  clear hN hab ha
  have hB0 : Blk ((((w.alloc (.cells (big a).toArray 37)).alloc (.cells (big b).toArray 37)).alloc (.cells (big 0).toArray 37)).alloc (.cells (big 0).toArray 37)) w.heap.size (big a) 37 := (((Blk.new _ _ _).alloc _).alloc _).alloc _
  have hB1 : Blk ((((w.alloc (.cells (big a).toArray 37)).alloc (.cells (big b).toArray 37)).alloc (.cells (big 0).toArray 37)).alloc (.cells (big 0).toArray 37)) (w.heap.size + 1) (big b) 37 := ((Blk.new' _ _ _ _ (by simp)).alloc _).alloc _
  have hB2 : Blk ((((w.alloc (.cells (big a).toArray 37)).alloc (.cells (big b).toArray 37)).alloc (.cells (big 0).toArray 37)).alloc (.cells (big 0).toArray 37)) (w.heap.size + 2) (big 0) 37 := (Blk.new' _ _ _ _ (by simp)).alloc _
  have hB3 : Blk ((((w.alloc (.cells (big a).toArray 37)).alloc (.cells (big b).toArray 37)).alloc (.cells (big 0).toArray 37)).alloc (.cells (big 0).toArray 37)) (w.heap.size + 3) (big 0) 37 := Blk.new' _ _ _ _ (by simp)
  have hbe : Below w.heap.size w ((((w.alloc (.cells (big a).toArray 37)).alloc (.cells (big b).toArray 37)).alloc (.cells (big 0).toArray 37)).alloc (.cells (big 0).toArray 37)) := ((((Below.refl _ _).alloc (Nat.le_refl _) _).alloc (by simp) _).alloc (by simp; omega) _).alloc (by simp; omega) _
  go_enter Try.func39, Try.ntmps39
  go_wp2
  generalize ((((w.alloc (.cells (big a).toArray 37)).alloc (.cells (big b).toArray 37)).alloc (.cells (big 0).toArray 37)).alloc (.cells (big 0).toArray 37)) = W at *
  obtain ⟨A, hA⟩ : ∃ A, A = w.heap.size := ⟨_, rfl⟩
  rw [← hA] at hB0 hB1 hB2 hB3 hbe
  simp only [← hA, show A + 1 + 1 = A + 2 from rfl, show A + 2 + 1 = A + 3 from rfl]
  have HAW := hid hA
  clear hA
  have HB0 := hid hB0
  have HB1 := hid hB1
  have HB2 := hid hB2
  have HBE := hid hbe
  clear hB0 hB1 hB2 hbe
  go_loopw [6, 7] (fun cv iv wr => ∃ (i : Nat) (l : List Value) (c : Bool), iv = .int .i64 (i : Nat) ∧ cv = .bool c ∧ i ≤ 160 ∧ Hid (bor a b i = c) ∧ Hid (Part N i l) ∧ Hid (Blk wr (A + 3) l 37) ∧ Hid (Only (A + 3) W wr)) (fun _ iv _ => 160 - (intOf iv).toNat)
  case atStart => exact ⟨0, big 0, false, rfl, rfl, by omega, bor_zero a b, Part.start N, hB3, Only.refl _ _⟩
  case round =>
    clear hB3
    obtain ⟨i, l, c, rfl, rfl, hi, HC, HL, HK, HO⟩ := hrel
    by_cases hlt : i < 160
    · have e1 : (i : Int) < 160 := by omega
      have e0 : (0 : Int) ≤ (i : Int) := by omega
      have c0 := (HO.out.blk HB0.out (by omega)).bit (j := i) hlt
      have c1 := (HO.out.blk HB1.out (by omega)).bit (j := i) hlt
      obtain ⟨d, hd⟩ := HL.out.2.2 i hlt
      have c3 : wr.cell? ⟨A + 3, i, none⟩ = some (.bool d) := by rw [HK.out.cell]; exact hd
      have f3 := HK.out.frozen i
      have HP := hid (HL.out.step hlt)
      have hbit := HT.out i hlt
      have HS := hid (bor_succ a b i hlt)
      rw [HC.out] at HS hbit
      rw [hbit] at HP
      generalize a.testBit i = x at *
      generalize b.testBit i = y at *
      have HK2 : Hid (∀ b', b' = A + 3 → ∀ v, v = Value.bool ((x != y) != c) → Blk (wr.setCell ⟨b', i, none⟩ v).drew (A + 3) (l.set i (.bool ((x != y) != c))) 37 ∧ Only (A + 3) W (wr.setCell ⟨b', i, none⟩ v).drew ∧ (wr.setCell ⟨b', i, none⟩ v).drew.cell? ⟨A, i, none⟩ = some (.bool x) ∧ (wr.setCell ⟨b', i, none⟩ v).drew.cell? ⟨A + 1, i, none⟩ = some (.bool y)) := by
        rintro b' rfl v rfl
        exact ⟨(HK.out.set _ _).drew, (HO.out.setCell _ _).drew, keepCell c0 (by omega) _ _, keepCell c1 (by omega) _ _⟩
      clear hbit hd HL HK HO HT HC
      cases x <;> cases y <;> cases c
      all_goals (
        simp only [Bool.bne_false, Bool.bne_true, Bool.not_true, Bool.not_false] at HP HK2
        go_wp2
        go_region
        obtain ⟨hK3, ho3, d0, d1⟩ := HK2.out _ rfl _ rfl
        generalize (wr.setCell _ _).drew = W3 at *
        clear HK2 c0 c1 c3 f3
        go_wp2
        go_quiet (fail)
        go_wp2
        exact ⟨⟨i + 1, _, _, by simp, rfl, by omega, HS, HP, hK3.drewN _, ho3.drewN _⟩, by simp only [intOf]; omega⟩)
    · obtain rfl : i = 160 := by omega
      have hl := HL.out.whole
      subst hl
      have hr := HK.out.range
      have hB1 := HO.out.blk HB2.out (by omega)
      have hth := hB1.there 0 (big N).length (by rw [big_length, big_length]; omega)
      have hbr := Blk.setCells (big N) 0 hB1 (by rw [big_length, big_length]; omega)
      rw [show over (big 0) 0 (big N) = big N by simp [over, big_length]] at hbr
      have hbf := Below.setCells (HBE.out.trans (HO.out.below (B := A) (by omega) (by have := HBE.out.size; have := HAW.out; omega))) (b := A + 2) (by omega) 0 (big N)
      have hone := hid (big_oneCell N)
      have hi37 := size37 N
      clear HL HK HO HT
      go_wp2_with (first
        | ((with_reducible refine wpL_load 37 (A + 3) 0 (big N) _ ?_ hr Try.underlying37 ?_ hi37 ?_); (rfl); (rfl); (simp only [Act.put, List.setIfInBounds_toArray, List.set_cons_zero, List.set_cons_succ]))
        | ((with_reducible refine wpL_store 37 (A + 2) 0 (big N) ?_ ?_ hth hi37 hone.out ?_); (rfl); (rfl); (simp only [Act.put])))
      exact bodyPost_ret (results_array Try.results39 rfl hbr Try.underlying37 rfl hi37) rfl ⟨rfl, by rw [← HAW.out]; exact hbf⟩
end Go.Proofs.Ytdfobaggdeoggaa
