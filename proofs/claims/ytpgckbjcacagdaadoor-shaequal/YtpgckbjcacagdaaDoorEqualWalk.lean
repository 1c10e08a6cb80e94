/- The walk of the law ShaEqual: it answers true. -/
import Derived.Test.YtpgckbjcacagdaaDoorAwake
import Derived.Deep.DeepCutAuto
import Derived.Deep.RegionWith
namespace Go.Proofs.YtpgckbjcacagdaaDoor
open Go.RowKit
attribute [local go_sem] eqGuard_B run_xor_B run_eql_B0 match_B run_cells_B run_store_B
attribute [local go_sem ↓] storeAt_B

theorem set_xor_eq (a : List Byte) (i : Nat) (hi : i < a.length) (y : Byte) : decide (a = a.set i (a.getD i 0 ^^^ y)) = (y == 0#8) := by
  rw [Bool.eq_iff_iff]
  simp only [decide_eq_true_eq, beq_iff_eq]
  constructor
  · intro h
    have h1 : a.getD i 0 = (a.set i (a.getD i 0 ^^^ y)).getD i 0 := by rw [← h]
    have h2 : (a.set i (a.getD i 0 ^^^ y)).getD i 0 = a.getD i 0 ^^^ y := by simp [hi]
    rw [h2] at h1
    have h3 : a.getD i 0 ^^^ (a.getD i 0 ^^^ y) = 0#8 := by rw [← h1]; exact BitVec.xor_self
    rw [← BitVec.xor_assoc, BitVec.xor_self, BitVec.zero_xor] at h3
    exact h3
  · rintro rfl
    simp [hi]

set_option maxHeartbeats 1000000 in
theorem shaEqual_walk (a : List Byte) (ha : a.length = 32) (n : Nat) (hn : n < 256) (y : Byte) (w : World) (ht : Tab w) :
    Calls Tryd.prog 7 #[.agg (a.map B8).toArray, .int .u8 n, B8 y] w fun e w' => e = .returned (.bool true) ∧ Below w.heap.size w w' := by
  have hpos := ht.pos
  have hbe0 : Below w.heap.size w (w.alloc (.cells (a.map B8).toArray 26)) := (Below.refl _ _).alloc (Nat.le_refl _) _
  have haw : Hid (Calls Tryd.prog 9 #[] (w.alloc (.cells (a.map B8).toArray 26)) fun e w' => e = .returned (.bool true) ∧ Below (w.alloc (.cells (a.map B8).toArray 26)).heap.size (w.alloc (.cells (a.map B8).toArray 26)) w') :=
    awake_any _ (ht.below hbe0 hpos)
  clear ht
  obtain ⟨i, hi⟩ : ∃ i, i = n % 32 := ⟨_, rfl⟩
  have hi32 : i < 32 := by omega
  have hni : (n : Int) % 32 = (i : Int) := by omega
  have e0 : (0 : Int) ≤ (i : Int) := by omega
  have e1 : (i : Int) < 32 := by omega
  clear hi
  have hsx := set_xor_eq a i (by omega) y
  obtain ⟨x, hx⟩ : ∃ x, x = a.getD i 0 := ⟨_, rfl⟩
  rw [← hx] at hsx
  have hcx : ∀ (W : World) (b : Nat), Blk W b (a.map B8) 26 → W.cell? ⟨b, i, none⟩ = some (B8 x) := fun W b h => by rw [hx]; exact h.cellB (by omega)
  clear hx
  obtain ⟨b, hb⟩ : ∃ b, b = a.set i (x ^^^ y) := ⟨_, rfl⟩
  rw [← hb] at hsx
  have hbl : b.length = 32 := by rw [hb, List.length_set, ha]
  have hi26 : (Tryd.prog.info? 26).map (·.size) = some (a.map B8).length := by rw [List.length_map, ha]; exact size26
  have hi26b : (Tryd.prog.info? 26).map (·.size) = some (b.map B8).length := by rw [List.length_map, hbl]; exact size26
  have hone : Hid (∀ v ∈ a.map B8, v.oneCell' = true) := mapB_one _
  have hzl : (zB 32).length = (a.map B8).length := by rw [List.length_map, ha, zB_length]
  have heq1 : Hid (∀ W, Calls Tryd.prog 21 #[.agg (a.map B8).toArray, .agg (b.map B8).toArray] W fun e w' => e = .returned (.bool (y == 0#8)) ∧ Below W.heap.size W w') := fun W => by
    have := equal_any a b ha hbl W
    rw [hsx] at this; exact this
  have heq2 : Hid (∀ W, Calls Tryd.prog 21 #[.agg (a.map B8).toArray, .agg (a.map B8).toArray] W fun e w' => e = .returned (.bool true) ∧ Below W.heap.size W w') := fun W => by
    have := equal_any a a ha ha W
    simpa using this
  have HB : Hid (b = a.set i (x ^^^ y)) := hb
  clear hb hsx
  go_enter Tryd.func7, Tryd.ntmps7
  go_wp2_with fail
  refine haw.out.mono ?_
  rintro e w1 ⟨rfl, hb1⟩
  have hA1 : Blk w1 w.heap.size (a.map B8) 26 := (Blk.new w (a.map B8) 26).below hb1 (by simp)
  have hbe1 : Below w.heap.size w w1 := hbe0.trans (hb1.mono (by simp))
  have hr1 : w1.rangeAt w.heap.size 0 (a.map B8) := hA1.range
  have hA2 : Blk (w1.alloc (.cells (a.map B8).toArray 26)) w1.heap.size (a.map B8) 26 := Blk.new _ _ _
  have hA2' : Blk (w1.alloc (.cells (a.map B8).toArray 26)) w.heap.size (a.map B8) 26 := hA1.alloc _
  have hlt1 := hA1.lt
  have cx := hcx _ _ hA2
  have fx := hA2.frozen i
  have hA3 : Blk (w1.alloc (.cells ((a.map B8).set i (B8 (x ^^^ y))).toArray 26)) w.heap.size (a.map B8) 26 := hA1.alloc _
  have hB3 : Blk (w1.alloc (.cells ((a.map B8).set i (B8 (x ^^^ y))).toArray 26)) w1.heap.size (b.map B8) 26 := by
    rw [HB.out, ← set_mapB]; exact Blk.new _ _ _
  have hbe3 : Below w.heap.size w (w1.alloc (.cells ((a.map B8).set i (B8 (x ^^^ y))).toArray 26)) := hbe1.alloc (by omega) _
  go_upto_region 5 with (first
    | ((with_reducible refine wpL_load 26 w.heap.size 0 (a.map B8) _ ?_ hr1 Tryd.underlying26 ?_ hi26 ?_); (rfl); (rfl); (simp only [Act.put, List.setIfInBounds_toArray, List.set_cons_zero, List.set_cons_succ]))
    | ((with_reducible refine wpL_new 26 (zB 32) (a.map B8) zv26 hzl ?_ ?_ hi26 hone.out ?_); (rfl); (rfl); (simp only [Act.put, List.setIfInBounds_toArray, List.set_cons_zero, List.set_cons_succ])))
  generalize w1.alloc (.cells ((a.map B8).set i (B8 (x ^^^ y))).toArray 26) = W at *
  have hrA : W.rangeAt w.heap.size 0 (a.map B8) := hA3.range
  have hrB : W.rangeAt w1.heap.size 0 (b.map B8) := hB3.range
  have hrC : Hid (∀ w', Below W.heap.size W w' → w'.rangeAt w.heap.size 0 (a.map B8)) := fun w' h => (hA3.below h hA3.lt).range
  clear cx fx hA2 hA2' hr1 hb1 hcx haw
  by_cases hy : y = 0#8
  · have hy' : (y == 0#8) = true := by simp [hy]
    clear hy
    go_wp2_with (first
      | ((with_reducible refine wpL_load 26 w.heap.size 0 (a.map B8) _ ?_ hrA Tryd.underlying26 ?_ hi26 ?_); (rfl); (rfl); (simp only [Act.put, List.setIfInBounds_toArray, List.set_cons_zero, List.set_cons_succ]))
      | ((with_reducible refine wpL_load 26 w1.heap.size 0 (b.map B8) _ ?_ hrB Tryd.underlying26 ?_ hi26b ?_); (rfl); (rfl); (simp only [Act.put, List.setIfInBounds_toArray, List.set_cons_zero, List.set_cons_succ]))
      | (go_at_call_of 21 (Value.agg (b.map B8).toArray); refine (heq1.out _).mono ?_; rintro e w' ⟨rfl, hb2⟩)
      | ((with_reducible refine wpL_loadG 26 w.heap.size 0 (a.map B8) _ ?_ ?_ (hrC.out _ hb2) Tryd.underlying26 ?_ hi26 ?_); (rfl); (rfl); (rfl); (simp only [Act.put, List.setIfInBounds_toArray, List.set_cons_zero, List.set_cons_succ]))
      | (go_at_call 21; refine (heq2.out _).mono ?_; rintro e w' ⟨rfl, hb3⟩))
    go_ret
    exact ⟨rfl, (hbe3.trans (hb2.mono (by have := hbe3.size; omega))).trans (hb3.mono (by have := (hbe3.trans (hb2.mono (by have := hbe3.size; omega))).size; omega))⟩
  · have hy' : (y == 0#8) = false := by simp [hy]
    clear hy
    go_wp2_with (first
      | ((with_reducible refine wpL_load 26 w.heap.size 0 (a.map B8) _ ?_ hrA Tryd.underlying26 ?_ hi26 ?_); (rfl); (rfl); (simp only [Act.put, List.setIfInBounds_toArray, List.set_cons_zero, List.set_cons_succ]))
      | ((with_reducible refine wpL_load 26 w1.heap.size 0 (b.map B8) _ ?_ hrB Tryd.underlying26 ?_ hi26b ?_); (rfl); (rfl); (simp only [Act.put, List.setIfInBounds_toArray, List.set_cons_zero, List.set_cons_succ]))
      | (go_at_call_of 21 (Value.agg (b.map B8).toArray); refine (heq1.out _).mono ?_; rintro e w' ⟨rfl, hb2⟩)
      | ((with_reducible refine wpL_loadG 26 w.heap.size 0 (a.map B8) _ ?_ ?_ (hrC.out _ hb2) Tryd.underlying26 ?_ hi26 ?_); (rfl); (rfl); (rfl); (simp only [Act.put, List.setIfInBounds_toArray, List.set_cons_zero, List.set_cons_succ]))
      | (go_at_call 21; refine (heq2.out _).mono ?_; rintro e w' ⟨rfl, hb3⟩))
    go_ret
    exact ⟨rfl, (hbe3.trans (hb2.mono (by have := hbe3.size; omega))).trans (hb3.mono (by have := (hbe3.trans (hb2.mono (by have := hbe3.size; omega))).size; omega))⟩
end Go.Proofs.YtpgckbjcacagdaaDoor
