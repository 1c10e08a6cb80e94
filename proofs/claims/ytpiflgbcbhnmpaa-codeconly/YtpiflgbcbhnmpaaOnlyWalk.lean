/- The walk of the law CodecOnly: it answers true. -/
import Derived.Test.YtpiflgbcbhnmpaaAwake
import Derived.Test.YtpiflgbcbhnmpaaSame
import Derived.Test.YtpiflgbcbhnmpaaOnlyParts
import Derived.Deep.DeepCutAuto
namespace Go.Proofs.Ytpiflgbcbhnmpaa
open Go.RowKit
set_option maxRecDepth 100000 in
theorem only_big (p : Option Addr) (M cap : Nat) (w : World) (hm : 20000 < M) :
    Calls Try.prog 7 #[.slice p M cap] w fun e w' => e = .returned (.bool true) ∧ Below w.heap.size w w' := by
  have haw : Hid (∀ W, Calls Try.prog 9 #[] W fun e w' => e = .returned (.bool true) ∧ Below W.heap.size W w') := fun W => awake_any W
  have hm' : (20000 : Int) < (M : Int) := by omega
  go_enter Try.func7, Try.ntmps7
  go_wp2_with fail
  refine (haw.out w).mono ?_
  rintro e w1 ⟨rfl, hb1⟩
  go_wp2_with fail
  refine (haw.out w1).mono ?_
  rintro e w2 ⟨rfl, hb2⟩
  go_wp2
  go_ret
  exact ⟨rfl, hb1.trans (hb2.mono hb1.size)⟩
set_option maxRecDepth 100000 in
set_option maxHeartbeats 4000000 in
theorem only_walk (bs : List Nat) (hbs : ∀ x ∈ bs, x < 256) (p : Option Addr) (M cap : Nat) (w : World) (hM : M = bs.length) (hB : BytesAt w (.slice p M cap) bs) (hm : M ≤ 20000) :
    Calls Try.prog 7 #[.slice p M cap] w fun e w' => e = .returned (.bool true) ∧ Below w.heap.size w w' := by
  have haw : Hid (Calls Try.prog 9 #[] w fun e w' => e = .returned (.bool true) ∧ Below w.heap.size w w') := awake_any w
  have hm' : ¬ (20000 : Int) < (M : Int) := by omega
  have c32 := hid (show ∀ W, Below w.heap.size w W → Calls Try.prog 32 #[.slice p M cap] W fun e w' => ReadBack 20 37 bs W e w' from fun W h => rb32 bs hbs p M cap W hM (hB.below h) (by omega))
  have c34 := hid (show ∀ W, Below w.heap.size w W → Calls Try.prog 34 #[.slice p M cap] W fun e w' => ReadBack 26 98 bs W e w' from fun W h => rb34 bs hbs p M cap W hM (hB.below h) (by omega))
  have c36 := hid (show ∀ W, Below w.heap.size w W → Calls Try.prog 36 #[.slice p M cap] W fun e w' => ReadBack 28 67 bs W e w' from fun W h => rb36 bs hbs p M cap W hM (hB.below h) (by omega))
  have c38 := hid (show ∀ W, Below w.heap.size w W → Calls Try.prog 38 #[.slice p M cap] W fun e w' => ReadBackS 43 bs W e w' from fun W h => rb38 bs hbs p M cap W hM (hB.below h) (by omega))
  have same := hid (show ∀ (q : Option Addr) (N c : Nat) (B : Nat) (W : World), N = bs.length → Below w.heap.size w W → OwnB W B (.slice q N c) bs → Calls Try.prog 14 #[.slice q N c, .slice p M cap] W fun e w' => e = .returned (.bool true) ∧ Below W.heap.size W w' from fun q N c B W hN h ho => by
    obtain rfl : N = M := by rw [hN, hM]
    exact (same_any bs q p N c cap W hM ho.bytes (hB.below h) (by omega)).mono fun e w'' ⟨he, n, hw⟩ => ⟨he, by rw [hw]; exact Below.drewN (Below.refl _ _) n⟩)
  clear hB hbs hM hm
  go_enter Try.func7, Try.ntmps7
  go_wp2_with fail
  refine haw.out.mono ?_
  rintro e w0 ⟨rfl, hb0⟩
  clear haw
  go_wp2_with fail
  refine Calls.mono (c32.out w0 hb0) ?_
  rintro e w1 ⟨es, E, rfl, hel, hone, hb1, hw⟩
  have be1 := hid (hb0.trans (hb1.mono hb0.size))
  clear hb0 hb1 c32
  have hi47 : (Try.prog.info? 47).map (·.size) = some es.length := by rw [hel]; exact size47
  have hzl : z47.length = es.length := by rw [hel]; exact by simp [z47, zB_length]
  have hbr := Blk.new w1 es 47
  have bel : Below w1.heap.size w1 (w1.alloc (.cells es.toArray 47)) := (Below.refl _ _).alloc (Nat.le_refl _) _
  have be2 := hid (be1.out.trans (bel.mono be1.out.size))
  have hw2 := hid (fun h0 => hw h0 _ bel)
  have honeE := hid hone
  clear hw be1 bel hone
  go_upto_if 33 with (first
    | ((with_reducible refine wpL_new 47 z47 es zv47 hzl ?_ ?_ hi47 honeE.out ?_); (rfl); (rfl); (simp only [Act.put, List.setIfInBounds_toArray, List.set_cons_zero, List.set_cons_succ])))
  go_cut [5, 6] (fun _ _ W => Below w.heap.size w W)
  case first =>
    by_cases h0 : E = 0
    · subst h0
      have hwr := hid (hw2.out rfl)
      have hld := hbr.range
      go_wp2_with (first
        | ((with_reducible refine wpL_load 47 w1.heap.size 0 es _ ?_ hld Try.underlying47 ?_ hi47 ?_); (rfl); (rfl); (simp only [Act.put, List.setIfInBounds_toArray, List.set_cons_zero, List.set_cons_succ])))
      refine Calls.mono hwr.out ?_
      rintro e w3 ⟨p3, N3, k3, hN3, rfl, ho3, hb3⟩
      have be3 := hid (be2.out.trans (hb3.mono be2.out.size))
      have hs := hid (same.out p3 N3 k3 _ w3 hN3 be3.out ho3)
      clear hN3 ho3 hb3 be2 hw2 hbr hld c34 c36 c38 same
      go_wp2_with fail
      refine Calls.mono hs.out ?_
      rintro e w4 ⟨rfl, hb4⟩
      go_wp2
      go_meet
      exact be3.out.trans (hb4.mono be3.out.size)
    · have h1 : (E == 0) = false := by simp [h0]
      go_wp2_with fail
      go_meet
      exact be2.out
  case rest =>
  have bx := hid hcut
  clear hcut be2 hw2 hbr hi47 hzl hel honeE
  go_wp2_with fail
  refine Calls.mono (c36.out _ bx.out) ?_
  rintro e wb ⟨es, E, rfl, hel, hone, hb1, hw⟩
  have be1 := hid (bx.out.trans (hb1.mono bx.out.size))
  clear bx hb1 c36
  have hi41 : (Try.prog.info? 41).map (·.size) = some es.length := by rw [hel]; exact size41
  have hzl : z41.length = es.length := by rw [hel]; exact rsC_length _ _ _ _ _ (zB_length 32) (zB_length 32)
  have hbr := Blk.new wb es 41
  have bel : Below wb.heap.size wb (wb.alloc (.cells es.toArray 41)) := (Below.refl _ _).alloc (Nat.le_refl _) _
  have be2 := hid (be1.out.trans (bel.mono be1.out.size))
  have hw2 := hid (fun h0 => hw h0 _ bel)
  have honeE := hid hone
  clear hw be1 bel hone
  go_upto_if 53 with (first
    | ((with_reducible refine wpL_new 41 z41 es zv41 hzl ?_ ?_ hi41 honeE.out ?_); (rfl); (rfl); (simp only [Act.put, List.setIfInBounds_toArray, List.set_cons_zero, List.set_cons_succ])))
  go_cut [9, 10] (fun _ _ W => Below w.heap.size w W)
  case first =>
    by_cases h0 : E = 0
    · subst h0
      have hwr := hid (hw2.out rfl)
      have hld := hbr.range
      go_wp2_with (first
        | ((with_reducible refine wpL_load 41 wb.heap.size 0 es _ ?_ hld Try.underlying41 ?_ hi41 ?_); (rfl); (rfl); (simp only [Act.put, List.setIfInBounds_toArray, List.set_cons_zero, List.set_cons_succ])))
      refine Calls.mono hwr.out ?_
      rintro e w3 ⟨p3, N3, k3, hN3, rfl, ho3, hb3⟩
      have be3 := hid (be2.out.trans (hb3.mono be2.out.size))
      have hs := hid (same.out p3 N3 k3 _ w3 hN3 be3.out ho3)
      clear hN3 ho3 hb3 be2 hw2 hbr hld c34 c38 same
      go_wp2_with fail
      refine Calls.mono hs.out ?_
      rintro e w4 ⟨rfl, hb4⟩
      go_wp2
      go_meet
      exact be3.out.trans (hb4.mono be3.out.size)
    · have h1 : (E == 0) = false := by simp [h0]
      go_wp2_with fail
      go_meet
      exact be2.out
  case rest =>
  have bx := hid hcut
  clear hcut be2 hw2 hbr hi41 hzl hel honeE
  go_wp2_with fail
  refine Calls.mono (c38.out _ bx.out) ?_
  rintro e w2 ⟨ps, Ns, cs, E, rfl, hb1, hw⟩
  have be2 := hid (bx.out.trans (hb1.mono bx.out.size))
  have hw2 := hid (fun h0 => hw h0 _ (Below.refl _ _))
  clear bx hb1 hw c38
  go_upto_if 73 with (fail)
  go_cut [13, 14] (fun _ _ W => Below w.heap.size w W)
  case first =>
    by_cases h0 : E = 0
    · subst h0
      have hwr := hid (hw2.out rfl)
      go_wp2_with fail
      refine Calls.mono hwr.out ?_
      rintro e w3 ⟨p3, N3, k3, hN3, rfl, ho3, hb3⟩
      have be3 := hid (be2.out.trans (hb3.mono be2.out.size))
      have hs := hid (same.out p3 N3 k3 _ w3 hN3 be3.out ho3)
      clear hN3 ho3 hb3 be2 hw2  c34 same
      go_wp2_with fail
      refine Calls.mono hs.out ?_
      rintro e w4 ⟨rfl, hb4⟩
      go_wp2
      go_meet
      exact be3.out.trans (hb4.mono be3.out.size)
    · have h1 : (E == 0) = false := by simp [h0]
      go_wp2_with fail
      go_meet
      exact be2.out
  case rest =>
  have bx := hid hcut
  clear hcut be2 hw2 
  go_wp2_with fail
  refine Calls.mono (c34.out _ bx.out) ?_
  rintro e w5 ⟨es, E, rfl, hel, hone, hb1, hw⟩
  have be1 := hid (bx.out.trans (hb1.mono bx.out.size))
  clear bx hb1 c34
  have hi39 : (Try.prog.info? 39).map (·.size) = some es.length := by rw [hel]; exact size39
  have hzl : z39.length = es.length := by rw [hel]; exact bkL_length _ _ _ _ _ (zB_length 32) (zB_length 32) (zB_length 32)
  have hbr := Blk.new w5 es 39
  have bel : Below w5.heap.size w5 (w5.alloc (.cells es.toArray 39)) := (Below.refl _ _).alloc (Nat.le_refl _) _
  have be2 := hid (be1.out.trans (bel.mono be1.out.size))
  have hw2 := hid (fun h0 => hw h0 _ bel)
  have honeE := hid hone
  clear hw be1 bel hone
  go_upto_region 19 with (first
    | ((with_reducible refine wpL_new 39 z39 es zv39 hzl ?_ ?_ hi39 honeE.out ?_); (rfl); (rfl); (simp only [Act.put, List.setIfInBounds_toArray, List.set_cons_zero, List.set_cons_succ])))
  by_cases h0 : E = 0
  · subst h0
    have hwr := hid (hw2.out rfl)
    have hld := hbr.range
    go_wp2_with (first
      | ((with_reducible refine wpL_load 39 w5.heap.size 0 es _ ?_ hld Try.underlying39 ?_ hi39 ?_); (rfl); (rfl); (simp only [Act.put, List.setIfInBounds_toArray, List.set_cons_zero, List.set_cons_succ])))
    refine Calls.mono hwr.out ?_
    rintro e w6 ⟨p3, N3, k3, hN3, rfl, ho3, hb3⟩
    have be3 := hid (be2.out.trans (hb3.mono be2.out.size))
    have hs := hid (same.out p3 N3 k3 _ w6 hN3 be3.out ho3)
    clear hN3 ho3 hb3 be2 hw2 hbr hld same
    go_wp2_with fail
    refine Calls.mono hs.out ?_
    rintro e w7 ⟨rfl, hb4⟩
    go_wp2
    go_ret
    exact ⟨rfl, be3.out.trans (hb4.mono be3.out.size)⟩
  · have h1 : (E == 0) = false := by simp [h0]
    go_wp2_with fail
    go_ret
    exact ⟨rfl, be2.out⟩
end Go.Proofs.Ytpiflgbcbhnmpaa
