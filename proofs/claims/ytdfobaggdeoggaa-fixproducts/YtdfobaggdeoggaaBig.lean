/- Numbers of 160 bits in memory; which of two is less; moved up. -/
import Derived.Test.YtdfobaggdeoggaaChecked
import Derived.Test.YtdfobaggdeoggaaMem
import Derived.Test.YtdfobaggdeoggaaProd
import Derived.KernelRfl
namespace Go.Proofs.Ytdfobaggdeoggaa
open Go.RowKit
/-- Of what was there nothing has turned but block hb. -/
structure Only (hb : Nat) (w w' : World) : Prop where
  os : w'.os = w.os
  tape : w'.tape = w.tape
  output : w'.output = w.output
  size : w.heap.size ≤ w'.heap.size
  block : ∀ k, k < w.heap.size → k ≠ hb → w'.heap[k]? = w.heap[k]?
theorem Only.refl (hb : Nat) (w : World) : Only hb w w := ⟨rfl, rfl, rfl, Nat.le_refl _, fun _ _ _ => rfl⟩
theorem Only.trans {hb : Nat} {a b c : World} (h : Only hb a b) (k : Only hb b c) : Only hb a c :=
  ⟨k.os.trans h.os, k.tape.trans h.tape, k.output.trans h.output, Nat.le_trans h.size k.size, fun i hi hn => (k.block i (Nat.lt_of_lt_of_le hi h.size) hn).trans (h.block i hi hn)⟩
theorem Only.of_below {hb : Nat} {a b : World} (h : Below a.heap.size a b) : Only hb a b := ⟨h.os, h.tape, h.output, h.size, fun k hk _ => h.block k hk⟩
theorem Only.setCells {hb : Nat} {a b : World} (h : Only hb a b) (o : Nat) (vs : List Value) : Only hb a (b.setCells hb o vs) :=
  h.trans ⟨(misc_setCells hb vs o b).1, (misc_setCells hb vs o b).2.1, (misc_setCells hb vs o b).2.2, by rw [size_setCells]; exact Nat.le_refl _, fun k _ hn => heap_setCells hb vs o b k hn⟩
theorem Only.setCell {hb : Nat} {a b : World} (h : Only hb a b) (o : Nat) (v : Value) : Only hb a (b.setCell ⟨hb, o, none⟩ v) :=
  h.trans ⟨rfl, rfl, rfl, by simp [World.setCell], fun k _ hn => Below.heap_setCell _ _ _ _ hn⟩
theorem Only.drew {hb : Nat} {a b : World} (h : Only hb a b) : Only hb a b.drew := ⟨h.os, h.tape, h.output, h.size, h.block⟩
theorem Only.drewN {hb : Nat} {a b : World} (h : Only hb a b) (n : Nat) : Only hb a (b.drewN n) := ⟨h.os, h.tape, h.output, h.size, h.block⟩
theorem Only.below {hb B : Nat} {a b : World} (h : Only hb a b) (hB : B ≤ hb) (hs : B ≤ a.heap.size) : Below B a b :=
  ⟨h.os, h.tape, h.output, h.size, fun k hk => h.block k (by omega) (by omega)⟩
theorem Only.blk {hb : Nat} {a b : World} (h : Only hb a b) {g : Nat} {l : List Value} {t : TypeId} (hl : Blk a g l t) (hn : g ≠ hb) : Blk b g l t := by
  have := hl.lt
  unfold Blk at *; rw [h.block g this hn]; exact hl
def intOf : Value → Int
  | .int _ n => n
  | _ => 0
/-- A number's bits in memory. -/
def big (n : Nat) : List Value := (List.range 160).map fun i => .bool (n.testBit i)
theorem big_length (n : Nat) : (big n).length = 160 := by simp [big]
theorem big_get (n j : Nat) (h : j < 160) : (big n)[j]? = some (.bool (n.testBit j)) := by
  simp [big, List.getElem?_range h]
theorem big_zero : big 0 = List.replicate 160 (.bool false) := by
  apply List.ext_getElem?
  intro i
  by_cases h : i < 160
  · rw [big_get 0 i h, List.getElem?_replicate, if_pos h]; simp
  · rw [List.getElem?_eq_none (by rw [big_length]; omega), List.getElem?_replicate, if_neg h]
theorem big_oneCell (n : Nat) : ∀ v ∈ big n, v.oneCell' = true := by
  intro v hv
  obtain ⟨x, _, rfl⟩ := List.mem_map.1 hv
  rfl
theorem alloc_of {P : Program} {t : TypeId} {l : List Value} (h : ∀ w, (zeroValue t).run P w = .ok (.agg l.toArray) w) (w : World) :
    (Instr.alloc t true (.tuple #[])).run P w = .ok (.pointer (some ⟨w.heap.size, 0, none⟩)) (w.alloc (.cells l.toArray t)) := by
  simp [Instr.alloc, h, go_sem]
theorem zeroOf {P : Program} {t : TypeId} {v : Value} {n : Nat} (h : (P.info? t).map (fun i => (i.zero, i.size)) = some (some v, n)) : ∀ w, (zeroValue t).run P w = .ok v w := by
  cases hq : P.info? t with
  | none => simp [hq] at h
  | some i =>
    simp [hq] at h
    exact fun w => by simp [zeroValue, typeInfo, hq, h.1]
theorem zero37 : (Try.prog.info? 37).map (fun i => (i.zero, i.size)) = some (some (.agg (List.replicate 160 (Value.bool false)).toArray), 160) := by kernel_rfl
theorem lt_bits {a b j : Nat} (h : ∀ i, j < i → a.testBit i = b.testBit i) (ha : a.testBit j = false) (hb : b.testBit j = true) : a < b := by
  have h1 : a / 2 ^ (j + 1) = b / 2 ^ (j + 1) := Nat.eq_of_testBit_eq fun i => by rw [Nat.testBit_div_two_pow, Nat.testBit_div_two_pow]; exact h _ (by omega)
  have e1 : a / 2 ^ j / 2 = a / 2 ^ (j + 1) := by rw [Nat.div_div_eq_div_mul, Nat.pow_succ]
  have e2 : b / 2 ^ j / 2 = b / 2 ^ (j + 1) := by rw [Nat.div_div_eq_div_mul, Nat.pow_succ]
  rw [Nat.testBit_eq_decide_div_mod_eq] at ha hb
  have ha2 := of_decide_eq_false ha
  have hb2 := of_decide_eq_true hb
  rcases Nat.lt_or_ge a b with k | k
  · exact k
  · have := Nat.div_le_div_right (c := 2 ^ j) k
    omega
theorem alloc37 (w : World) : (Instr.alloc 37 true (.tuple #[])).run Try.prog w = .ok (.pointer (some ⟨w.heap.size, 0, none⟩)) (w.alloc (.cells (big 0).toArray 37)) :=
  alloc_of (fun w => by rw [big_zero]; exact zeroOf zero37 w) w
theorem zv37 (w : World) : (zeroValue 37).run Try.prog w = .ok (.agg (big 0).toArray) w := by rw [big_zero]; exact zeroOf zero37 w
theorem size37 (n : Nat) : (Try.prog.info? 37).map (·.size) = some (big n).length := by rw [big_length]; kernel_rfl
theorem Blk.bit {w : World} {b n : Nat} {t : TypeId} (h : Blk w b (big n) t) {j : Nat} (hj : j < 160) : w.cell? ⟨b, j, none⟩ = some (.bool (n.testBit j)) := by
  rw [h.cell, big_get n j hj]
attribute [local go_sem ↓] zv37
set_option maxRecDepth 100000 in
set_option maxHeartbeats 1000000 in
theorem less_any (a b : Nat) (ha : a < 2 ^ 160) (hb : b < 2 ^ 160) (w : World) : Calls Try.prog 38 #[.agg (big a).toArray, .agg (big b).toArray] w fun e w' => e = .returned (.bool (decide (a < b))) ∧ Below w.heap.size w w' := by
  have H0 : Hid (∀ j, 160 ≤ j → a.testBit j = b.testBit j) := fun j hj => by
    rw [Nat.testBit_lt_two_pow (Nat.lt_of_lt_of_le ha (Nat.pow_le_pow_right (by omega) hj)), Nat.testBit_lt_two_pow (Nat.lt_of_lt_of_le hb (Nat.pow_le_pow_right (by omega) hj))]
  clear ha hb
  have hB0 : Blk ((w.alloc (.cells (big a).toArray 37)).alloc (.cells (big b).toArray 37)) w.heap.size (big a) 37 := (Blk.new _ _ _).alloc _
  have hB1 : Blk ((w.alloc (.cells (big a).toArray 37)).alloc (.cells (big b).toArray 37)) (w.heap.size + 1) (big b) 37 := Blk.new' _ _ _ _ (by simp)
  have hbe : Below w.heap.size w ((w.alloc (.cells (big a).toArray 37)).alloc (.cells (big b).toArray 37)) := ((Below.refl _ _).alloc (Nat.le_refl _) _).alloc (by simp) _
  obtain ⟨r, hr⟩ : ∃ r, r = decide (a < b) := ⟨_, rfl⟩
  rw [← hr]
  have HR : Hid (r = decide (a < b)) := hr
  clear hr
  go_enter Try.func38, Try.ntmps38
  go_wp2
  generalize (w.alloc (.cells (big a).toArray 37)).alloc (.cells (big b).toArray 37) = W at *
  have HB0 := hid hB0
  have HB1 := hid hB1
  have HBE := hid hbe
  clear hB0 hB1 hbe
  go_loopw [5] (fun i wr => ∃ k n : Nat, k ≤ 160 ∧ i = .int .i64 ((k : Int) - 1) ∧ Hid (∀ j, k ≤ j → a.testBit j = b.testBit j) ∧ wr = W.drewN n) (fun i _ => (intOf i + 1).toNat)
  case atStart => exact ⟨160, 0, by omega, rfl, H0, rfl⟩
  case round =>
    obtain ⟨k, n, hk, rfl, HD, rfl⟩ := hrel
    clear H0
    by_cases hlt : 0 < k
    · obtain ⟨j, rfl⟩ : ∃ j, k = j + 1 := ⟨k - 1, by omega⟩
      have ei : ((j + 1 : Nat) : Int) - 1 = (j : Int) := by omega
      rw [ei]
      have e0 : (0 : Int) ≤ (j : Int) := by omega
      have e1 : (j : Int) < 160 := by omega
      have c0 := HB0.out.bit (j := j) (by omega)
      have c1 := HB1.out.bit (j := j) (by omega)
      have HX : Hid (a.testBit j = b.testBit j → ∀ i, j ≤ i → a.testBit i = b.testBit i) := fun h i hi => by
        rcases Nat.eq_or_lt_of_le hi with rfl | h2
        · exact h
        · exact HD.out i h2
      have HL : Hid (a.testBit j ≠ b.testBit j → decide (a < b) = b.testBit j) := fun h => by
        cases hbj : b.testBit j with
        | true =>
          have haj : a.testBit j = false := by cases h' : a.testBit j with | false => rfl | true => rw [hbj, h'] at h; exact absurd rfl h
          exact decide_eq_true (lt_bits (fun i hi => HD.out i hi) haj hbj)
        | false =>
          have haj : a.testBit j = true := by cases h' : a.testBit j with | true => rfl | false => rw [hbj, h'] at h; exact absurd rfl h
          have := lt_bits (fun i hi => (HD.out i hi).symm) hbj haj
          exact decide_eq_false (by omega)
      clear HD
      generalize a.testBit j = x at *
      generalize b.testBit j = y at *
      by_cases hxy : x = y
      · subst hxy
        go_wp2
        go_quiet (fail)
        go_wp2
        exact ⟨⟨j, _, by omega, rfl, HX.out trivial, rfl⟩, by simp only [intOf]; omega⟩
      · have hr : Hid (r = y) := by rw [HR.out]; exact HL.out hxy
        clear HX HL HR
        obtain ⟨rfl, rfl⟩ | ⟨rfl, rfl⟩ : (x = false ∧ y = true) ∨ (x = true ∧ y = false) := by revert hxy; cases x <;> cases y <;> simp
        all_goals (
          go_wp2
          go_quiet (fail)
          go_wp2
          go_ret
          exact ⟨by rw [hr.out]; rfl, HBE.out.trans (by first | exact Below.drewN (Below.refl _ _) _ | exact Below.drewN (Below.drewN (Below.refl _ _) _) _)⟩)
    · have hk0 : k = 0 := by omega
      subst hk0
      have hN : a = b := Nat.eq_of_testBit_eq fun i => HD.out i (by omega)
      have hr : r = false := by rw [HR.out, hN]; simp
      clear hN
      go_wp2
      go_ret
      exact ⟨by rw [hr]; rfl, HBE.out.trans (Below.drewN (Below.refl _ _) n)⟩
/-- The first i bits of n are written. -/
def Part (n i : Nat) (l : List Value) : Prop := l.length = 160 ∧ (∀ j, j < i → l[j]? = some (.bool (n.testBit j))) ∧ ∀ j, j < 160 → ∃ c, l[j]? = some (.bool c)
theorem Part.start (n : Nat) : Part n 0 (big 0) := ⟨big_length 0, fun j hj => by omega, fun j hj => ⟨_, big_get 0 j hj⟩⟩
theorem Part.step {n i : Nat} {l : List Value} (h : Part n i l) (hi : i < 160) : Part n (i + 1) (l.set i (.bool (n.testBit i))) := by
  obtain ⟨h1, h2, h3⟩ := h
  refine ⟨by simp [h1], fun j hj => ?_, fun j hj => ?_⟩
  · rw [List.getElem?_set]
    by_cases e : i = j
    · subst e
      rw [if_pos rfl, if_pos (by omega)]
    · rw [if_neg e]; exact h2 j (by omega)
  · rw [List.getElem?_set]
    by_cases e : i = j
    · subst e; rw [if_pos rfl, if_pos (by omega)]; exact ⟨_, rfl⟩
    · rw [if_neg e]; exact h3 j hj
theorem Part.whole {n : Nat} {l : List Value} (h : Part n 160 l) : l = big n := by
  apply List.ext_getElem?
  intro i
  by_cases hi : i < 160
  · rw [h.2.1 i hi, big_get n i hi]
  · rw [List.getElem?_eq_none (by rw [h.1]; omega), List.getElem?_eq_none (by rw [big_length]; omega)]
set_option maxRecDepth 100000 in
set_option maxHeartbeats 1000000 in
theorem up_any (a n : Nat) (hn : n ≤ 160) (w : World) : Calls Try.prog 28 #[.agg (big a).toArray, .int .i64 (n : Int)] w fun e w' => e = .returned (.agg (big (a * 2 ^ n)).toArray) ∧ Below w.heap.size w w' := by
  obtain ⟨N, hN⟩ : ∃ N, N = a * 2 ^ n := ⟨_, rfl⟩
  have HT : Hid (∀ i, N.testBit i = (decide (n ≤ i) && a.testBit (i - n))) := fun i => by rw [hN, Nat.mul_comm, Nat.testBit_two_pow_mul]
  rw [← hN]
  clear hN
  have hB0 : Blk (((w.alloc (.cells (big a).toArray 37)).alloc (.cells (big 0).toArray 37)).alloc (.cells (big 0).toArray 37)) w.heap.size (big a) 37 := ((Blk.new _ _ _).alloc _).alloc _
  have hB1 : Blk (((w.alloc (.cells (big a).toArray 37)).alloc (.cells (big 0).toArray 37)).alloc (.cells (big 0).toArray 37)) (w.heap.size + 1) (big 0) 37 := (Blk.new' _ _ _ _ (by simp)).alloc _
  have hB2 : Blk (((w.alloc (.cells (big a).toArray 37)).alloc (.cells (big 0).toArray 37)).alloc (.cells (big 0).toArray 37)) (w.heap.size + 2) (big 0) 37 := Blk.new' _ _ _ _ (by simp)
  have hbe : Below w.heap.size w (((w.alloc (.cells (big a).toArray 37)).alloc (.cells (big 0).toArray 37)).alloc (.cells (big 0).toArray 37)) := (((Below.refl _ _).alloc (Nat.le_refl _) _).alloc (by simp) _).alloc (by simp; omega) _
  go_enter Try.func28, Try.ntmps28
  go_wp2
  generalize (((w.alloc (.cells (big a).toArray 37)).alloc (.cells (big 0).toArray 37)).alloc (.cells (big 0).toArray 37)) = W at *
  obtain ⟨A, hA⟩ : ∃ A, A = w.heap.size := ⟨_, rfl⟩
  rw [← hA] at hB0 hB1 hB2 hbe
  simp only [← hA]
  have HAW := hid hA
  clear hA
  have HB0 := hid hB0
  have HB1 := hid hB1
  have HBE := hid hbe
  clear hB0 hB1 hbe
  go_loopw [6] (fun iv wr => ∃ (i : Nat) (l : List Value), iv = .int .i64 (i : Nat) ∧ i ≤ 160 ∧ n ≤ i ∧ Hid (Part N i l) ∧ Hid (Blk wr (A + 2) l 37) ∧ Hid (Only (A + 2) W wr)) (fun iv _ => 160 - (intOf iv).toNat)
  case atStart =>
    refine ⟨n, big 0, rfl, hn, by omega, ⟨big_length 0, fun j hj => ?_, fun j hj => ⟨_, big_get 0 j hj⟩⟩, hB2, Only.refl _ _⟩
    rw [big_get 0 j (by omega), HT.out j, decide_eq_false (by omega)]; simp
  case round =>
    clear hB2
    obtain ⟨i, l, rfl, hi, hni, HL, HK, HO⟩ := hrel
    by_cases hlt : i < 160
    · have e1 : (i : Int) < 160 := by omega
      have e0 : (0 : Int) ≤ (i : Int) := by omega
      have e2 : (i : Int) - (n : Int) = ((i - n : Nat) : Int) := by omega
      have e3 : ((i - n : Nat) : Int) < 160 := by omega
      have e4 : (0 : Int) ≤ ((i - n : Nat) : Int) := by omega
      have c0 := (HO.out.blk HB0.out (by omega)).bit (j := i - n) (by omega)
      obtain ⟨c, hc⟩ := HL.out.2.2 i hlt
      have c1 : wr.cell? ⟨A + 2, i, none⟩ = some (.bool c) := by rw [HK.out.cell]; exact hc
      have f1 := HK.out.frozen i
      have HP := hid (HL.out.step hlt)
      have hbit : N.testBit i = a.testBit (i - n) := by rw [HT.out i, decide_eq_true hni]; simp
      rw [hbit] at HP
      have HK2 : Hid (∀ b', b' = A + 2 → Blk (wr.setCell ⟨b', i, none⟩ (.bool (a.testBit (i - n)))) (A + 2) (l.set i (.bool (a.testBit (i - n)))) 37 ∧ Only (A + 2) W (wr.setCell ⟨b', i, none⟩ (.bool (a.testBit (i - n))))) := by
        rintro b' rfl
        exact ⟨HK.out.set _ _, HO.out.setCell _ _⟩
      clear hbit hc HL HK HO
      generalize i - n = m at *
      generalize a.testBit m = x at *
      go_wp2
      exact ⟨⟨i + 1, _, by simp, by omega, by omega, HP, (HK2.out _ rfl).1, (HK2.out _ rfl).2⟩, by simp only [intOf]; omega⟩
    · obtain rfl : i = 160 := by omega
      have hl := HL.out.whole
      subst hl
      have hr := HK.out.range
      have hB1 := HO.out.blk HB1.out (by omega)
      have hth := hB1.there 0 (big N).length (by rw [big_length, big_length]; omega)
      have hbr := Blk.setCells (big N) 0 hB1 (by rw [big_length, big_length]; omega)
      rw [show over (big 0) 0 (big N) = big N by simp [over, big_length]] at hbr
      have hbf := Below.setCells (HBE.out.trans (HO.out.below (B := A) (by omega) (by have := HBE.out.size; have := HAW.out; omega))) (b := A + 1) (by omega) 0 (big N)
      have hone := hid (big_oneCell N)
      have hi37 := size37 N
      clear HL HK HO HT
      go_wp2_with (first
        | ((with_reducible refine wpL_load 37 (A + 2) 0 (big N) _ ?_ hr Try.underlying37 ?_ hi37 ?_); (rfl); (rfl); (simp only [Act.put, List.setIfInBounds_toArray, List.set_cons_zero, List.set_cons_succ]))
        | ((with_reducible refine wpL_store 37 (A + 1) 0 (big N) ?_ ?_ hth hi37 hone.out ?_); (rfl); (rfl); (simp only [Act.put])))
      exact bodyPost_ret (results_array Try.results28 rfl hbr Try.underlying37 rfl hi37) rfl ⟨rfl, by rw [← HAW.out]; exact hbf⟩
end Go.Proofs.Ytdfobaggdeoggaa
