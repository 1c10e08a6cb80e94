/- Products of numbers of 160 bits. -/
import Derived.Test.YtdfobaggdeoggaaHeld
import Derived.Test.YtdfobaggdeoggaaReady
namespace Go.Proofs.Ytdfobaggdeoggaa
open Go.RowKit
/-- What stands in memory while two numbers are multiplied. -/
def TimesAt (w : World) (A a b n : Nat) (W : World) : Prop := Blk W A (big a) 37 ∧ Blk W (A + 1) (big b) 37 ∧ Blk W (A + 2) (big 0) 37 ∧ Blk W (A + 3) (big n) 37 ∧ Below A w W
theorem TimesAt.call {w : World} {A a b n : Nat} {W W' : World} (h : TimesAt w A a b n W) (hb : Below W.heap.size W W') : TimesAt w A a b n W' :=
  ⟨h.1.below hb h.1.lt, h.2.1.below hb h.2.1.lt, h.2.2.1.below hb h.2.2.1.lt, h.2.2.2.1.below hb h.2.2.2.1.lt, h.2.2.2.2.trans (hb.mono (Nat.le_of_lt h.1.lt))⟩
theorem TimesAt.drew {w : World} {A a b n : Nat} {W : World} (h : TimesAt w A a b n W) : TimesAt w A a b n W.drew :=
  ⟨h.1.drew, h.2.1.drew, h.2.2.1.drew, h.2.2.2.1.drew, h.2.2.2.2.drew⟩
theorem TimesAt.store {w : World} {A a b n : Nat} {W : World} (h : TimesAt w A a b n W) (m : Nat) : TimesAt w A a b m (W.setCells (A + 3) 0 (big m)) := by
  refine ⟨h.1.setCells_ne _ (by omega) _ _, h.2.1.setCells_ne _ (by omega) _ _, h.2.2.1.setCells_ne _ (by omega) _ _, ?_, Below.setCells h.2.2.2.2 (by omega) 0 _⟩
  have k := Blk.setCells (big m) 0 h.2.2.2.1 (by rw [big_length, big_length]; omega)
  rw [show over (big n) 0 (big m) = big m by simp [over, big_length]] at k
  exact k
theorem mod_next (a b i : Nat) : a * (b % 2 ^ (i + 1)) = if b.testBit i then a * (b % 2 ^ i) + a * 2 ^ i else a * (b % 2 ^ i) := by
  have h : b % 2 ^ (i + 1) = b % 2 ^ i + 2 ^ i * (b / 2 ^ i % 2) := by rw [Nat.pow_succ, Nat.mod_mul]
  rw [h, Nat.testBit_eq_decide_div_mod_eq]
  by_cases k : b / 2 ^ i % 2 = 1
  · rw [decide_eq_true k, if_pos rfl, k, Nat.mul_one, Nat.mul_add]
  · have k0 : b / 2 ^ i % 2 = 0 := by omega
    rw [decide_eq_false k, if_neg (by simp), k0, Nat.mul_zero, Nat.add_zero]
attribute [local go_sem ↓] zv37
set_option maxRecDepth 100000 in
set_option maxHeartbeats 4000000 in
theorem times_any (a b : Nat) (hb : b < 2 ^ 64) (w : World) : Calls Try.prog 36 #[.agg (big a).toArray, .agg (big b).toArray] w fun e w' => e = .returned (.agg (big (a * b)).toArray) ∧ Below w.heap.size w w' := by
  obtain ⟨V, hV⟩ : ∃ V, V = a * b := ⟨_, rfl⟩
  have HV : Hid (a * (b % 2 ^ 64) = V) := by rw [Nat.mod_eq_of_lt hb]; exact hV.symm
  rw [← hV]
  clear hV hb
  have h28 : Hid (∀ i : Nat, i ≤ 160 → ∀ W, Calls Try.prog 28 #[.agg (big a).toArray, .int .i64 (i : Int)] W fun e w' => e = .returned (.agg (big (a * 2 ^ i)).toArray) ∧ Below W.heap.size W w') := fun i hi => up_any a i hi
  have h37 : Hid (∀ n m W, Calls Try.prog 37 #[.agg (big n).toArray, .agg (big m).toArray] W fun e w' => e = .returned (.agg (big (n + m)).toArray) ∧ Below W.heap.size W w') := plus_any
  have H0 : TimesAt w w.heap.size a b 0 ((((w.alloc (.cells (big a).toArray 37)).alloc (.cells (big b).toArray 37)).alloc (.cells (big 0).toArray 37)).alloc (.cells (big 0).toArray 37)) :=
    ⟨(((Blk.new _ _ _).alloc _).alloc _).alloc _, ((Blk.new' _ _ _ _ (by simp)).alloc _).alloc _, (Blk.new' _ _ _ _ (by simp)).alloc _, Blk.new' _ _ _ _ (by simp), ((((Below.refl _ _).alloc (Nat.le_refl _) _).alloc (by simp) _).alloc (by simp; omega) _).alloc (by simp; omega) _⟩
  go_enter Try.func36, Try.ntmps36
  go_wp2
  generalize ((((w.alloc (.cells (big a).toArray 37)).alloc (.cells (big b).toArray 37)).alloc (.cells (big 0).toArray 37)).alloc (.cells (big 0).toArray 37)) = W at *
  obtain ⟨A, hA⟩ : ∃ A, A = w.heap.size := ⟨_, rfl⟩
  rw [← hA] at H0
  simp only [← hA, show A + 1 + 1 = A + 2 from rfl, show A + 2 + 1 = A + 3 from rfl]
  have HAW := hid hA
  clear hA
  go_loopw [6] (fun iv wr => ∃ (i : Nat), iv = .int .i64 (i : Nat) ∧ i ≤ 64 ∧ Hid (TimesAt w A a b (a * (b % 2 ^ i)) wr)) (fun iv _ => 64 - (intOf iv).toNat)
  case atStart => exact ⟨0, rfl, by omega, by rw [Nat.pow_zero, Nat.mod_one, Nat.mul_zero]; exact H0⟩
  case round =>
    clear H0
    obtain ⟨i, rfl, hi, HI⟩ := hrel
    by_cases hlt : i < 64
    · have e1 : (i : Int) < 64 := by omega
      have e2 : (i : Int) < 160 := by omega
      have e0 : (0 : Int) ≤ (i : Int) := by omega
      have c1 := HI.out.2.1.bit (j := i) (by omega)
      have HS := hid (mod_next a b i)
      obtain ⟨N, hN⟩ : ∃ N, N = a * (b % 2 ^ i) := ⟨_, rfl⟩
      rw [← hN] at HI HS
      clear hN HV
      generalize b.testBit i = x at *
      cases x
      · replace HS : Hid (a * (b % 2 ^ (i + 1)) = N) := HS.out
        go_wp2
        exact ⟨⟨i + 1, by simp, by omega, by rw [HS.out]; exact HI⟩, by simp only [intOf]; omega⟩
      · replace HS : Hid (a * (b % 2 ^ (i + 1)) = N + a * 2 ^ i) := HS.out
        replace h28 := hid (h28.out i (by omega))
        generalize a * 2 ^ i = M at *
        replace h37 := hid (h37.out N M)
        go_wp2
        refine wp_region_noPanic ?_
        refine wp_region_any (by kernel_rfl) ?_
        change wpAny _ _ _ _ _ _ _ (World.drew _)
        have I2 := HI.out.drew
        clear HI c1
        generalize wr.drew = W2 at *
        refine take_op (i := 2) (.int .i64 (i : Int)) (by exact rfl) (by kernel_rfl) (by kernel_rfl) (by kernel_rfl) (fun _ _ _ h => h) (fun w => by go_simp) ?_
        simp only [Act.put, List.setIfInBounds_toArray, List.set_cons_zero, List.set_cons_succ]
        refine wpAny_ready (rs := [0, 1]) (by kernel_rfl) (by simp) ?_
        refine ready_load 37 (A + 3) 0 (big N) _ (by exact rfl) (by go_simp) I2.2.2.2.1.range Try.underlying37 rfl (size37 _) ?_ ?_
        · simp only [Act.put, List.setIfInBounds_toArray, List.set_cons_zero, List.set_cons_succ]
          refine wpAny_ready (rs := [1]) (by kernel_rfl) (by simp) ?_
          refine ready_load 37 A 0 (big a) _ (by exact rfl) (by go_simp) I2.1.range Try.underlying37 rfl (size37 _) ?_ AllReady.nil
          simp only [Act.put, List.setIfInBounds_toArray, List.set_cons_zero, List.set_cons_succ]
          refine wpAny_ready (rs := [3]) (by kernel_rfl) (by simp) ?_
          refine ready_call 28 _ _ #[.agg (big a).toArray, .int .i64 (i : Int)] (by exact rfl) (by go_simp) (by go_simp) ?_ AllReady.nil
          refine (h28.out _).mono ?_
          rintro e w3 ⟨rfl, hb3⟩
          refine ⟨_, rfl, ?_⟩
          simp only [Act.put, List.setIfInBounds_toArray, List.set_cons_zero, List.set_cons_succ]
          have I3 := I2.call hb3
          refine wpAny_ready (rs := [4]) (by kernel_rfl) (by simp) ?_
          refine ready_call 37 _ _ #[.agg (big N).toArray, .agg (big M).toArray] (by exact rfl) (by go_simp) (by go_simp) ?_ AllReady.nil
          refine (h37.out _).mono ?_
          rintro e w4 ⟨rfl, hb4⟩
          refine ⟨_, rfl, ?_⟩
          simp only [Act.put, List.setIfInBounds_toArray, List.set_cons_zero, List.set_cons_succ]
          have I4 := I3.call hb4
          have hth := I4.2.2.2.1.there 0 (big (N + M)).length (by rw [big_length, big_length]; omega)
          refine wpAny_ready (rs := [5]) (by kernel_rfl) (by simp) ?_
          refine ready_store 37 (A + 3) 0 (big (N + M)) (by exact rfl) (by go_simp) (by go_simp) hth (size37 _) (big_oneCell _) ?_ AllReady.nil
          simp only [Act.put]
          refine wpAny_done (by kernel_rfl) (NoPanic.normal ?_) _
          have I5 := hid (I4.store (N + M))
          clear hth I4 hb4 I3
          generalize w4.setCells (A + 3) 0 (big (N + M)) = W5 at *
          go_wp2
          exact ⟨⟨i + 1, by simp, by omega, by rw [HS.out]; exact I5.out⟩, by simp only [intOf]; omega⟩
        · refine ready_load 37 A 0 (big a) _ (by exact rfl) (by go_simp) I2.1.range Try.underlying37 rfl (size37 _) ?_ AllReady.nil
          simp only [Act.put, List.setIfInBounds_toArray, List.set_cons_zero, List.set_cons_succ]
          refine wpAny_ready (rs := [0, 3]) (by kernel_rfl) (by simp) ?_
          refine ready_load 37 (A + 3) 0 (big N) _ (by exact rfl) (by go_simp) I2.2.2.2.1.range Try.underlying37 rfl (size37 _) ?_ ?_
          · simp only [Act.put, List.setIfInBounds_toArray, List.set_cons_zero, List.set_cons_succ]
            refine wpAny_ready (rs := [3]) (by kernel_rfl) (by simp) ?_
            refine ready_call 28 _ _ #[.agg (big a).toArray, .int .i64 (i : Int)] (by exact rfl) (by go_simp) (by go_simp) ?_ AllReady.nil
            refine (h28.out _).mono ?_
            rintro e w3 ⟨rfl, hb3⟩
            refine ⟨_, rfl, ?_⟩
            simp only [Act.put, List.setIfInBounds_toArray, List.set_cons_zero, List.set_cons_succ]
            have I3 := I2.call hb3
            refine wpAny_ready (rs := [4]) (by kernel_rfl) (by simp) ?_
            refine ready_call 37 _ _ #[.agg (big N).toArray, .agg (big M).toArray] (by exact rfl) (by go_simp) (by go_simp) ?_ AllReady.nil
            refine (h37.out _).mono ?_
            rintro e w4 ⟨rfl, hb4⟩
            refine ⟨_, rfl, ?_⟩
            simp only [Act.put, List.setIfInBounds_toArray, List.set_cons_zero, List.set_cons_succ]
            have I4 := I3.call hb4
            have hth := I4.2.2.2.1.there 0 (big (N + M)).length (by rw [big_length, big_length]; omega)
            refine wpAny_ready (rs := [5]) (by kernel_rfl) (by simp) ?_
            refine ready_store 37 (A + 3) 0 (big (N + M)) (by exact rfl) (by go_simp) (by go_simp) hth (size37 _) (big_oneCell _) ?_ AllReady.nil
            simp only [Act.put]
            refine wpAny_done (by kernel_rfl) (NoPanic.normal ?_) _
            have I5 := hid (I4.store (N + M))
            clear hth I4 hb4 I3
            generalize w4.setCells (A + 3) 0 (big (N + M)) = W5 at *
            go_wp2
            exact ⟨⟨i + 1, by simp, by omega, by rw [HS.out]; exact I5.out⟩, by simp only [intOf]; omega⟩
          · refine ready_call 28 _ _ #[.agg (big a).toArray, .int .i64 (i : Int)] (by exact rfl) (by go_simp) (by go_simp) ?_ AllReady.nil
            refine (h28.out _).mono ?_
            rintro e w3 ⟨rfl, hb3⟩
            refine ⟨_, rfl, ?_⟩
            simp only [Act.put, List.setIfInBounds_toArray, List.set_cons_zero, List.set_cons_succ]
            have I3 := I2.call hb3
            refine wpAny_ready (rs := [0]) (by kernel_rfl) (by simp) ?_
            refine ready_load 37 (A + 3) 0 (big N) _ (by exact rfl) (by go_simp) I3.2.2.2.1.range Try.underlying37 rfl (size37 _) ?_ AllReady.nil
            simp only [Act.put, List.setIfInBounds_toArray, List.set_cons_zero, List.set_cons_succ]
            refine wpAny_ready (rs := [4]) (by kernel_rfl) (by simp) ?_
            refine ready_call 37 _ _ #[.agg (big N).toArray, .agg (big M).toArray] (by exact rfl) (by go_simp) (by go_simp) ?_ AllReady.nil
            refine (h37.out _).mono ?_
            rintro e w4 ⟨rfl, hb4⟩
            refine ⟨_, rfl, ?_⟩
            simp only [Act.put, List.setIfInBounds_toArray, List.set_cons_zero, List.set_cons_succ]
            have I4 := I3.call hb4
            have hth := I4.2.2.2.1.there 0 (big (N + M)).length (by rw [big_length, big_length]; omega)
            refine wpAny_ready (rs := [5]) (by kernel_rfl) (by simp) ?_
            refine ready_store 37 (A + 3) 0 (big (N + M)) (by exact rfl) (by go_simp) (by go_simp) hth (size37 _) (big_oneCell _) ?_ AllReady.nil
            simp only [Act.put]
            refine wpAny_done (by kernel_rfl) (NoPanic.normal ?_) _
            have I5 := hid (I4.store (N + M))
            clear hth I4 hb4 I3
            generalize w4.setCells (A + 3) 0 (big (N + M)) = W5 at *
            go_wp2
            exact ⟨⟨i + 1, by simp, by omega, by rw [HS.out]; exact I5.out⟩, by simp only [intOf]; omega⟩
    · obtain rfl : i = 64 := by omega
      have I := HI.out
      rw [HV.out] at I
      have hr := I.2.2.2.1.range
      have hth := I.2.2.1.there 0 (big V).length (by rw [big_length, big_length]; omega)
      have hbr := Blk.setCells (big V) 0 I.2.2.1 (by rw [big_length, big_length]; omega)
      rw [show over (big 0) 0 (big V) = big V by simp [over, big_length]] at hbr
      have hbf := Below.setCells I.2.2.2.2 (b := A + 2) (by omega) 0 (big V)
      have hi37 := size37 V
      clear I HI
      go_wp2_with (first
        | ((with_reducible refine wpL_load 37 (A + 3) 0 (big V) _ ?_ hr Try.underlying37 ?_ hi37 ?_); (rfl); (rfl); (simp only [Act.put, List.setIfInBounds_toArray, List.set_cons_zero, List.set_cons_succ]))
        | ((with_reducible refine wpL_store 37 (A + 2) 0 (big V) ?_ ?_ hth hi37 (big_oneCell V) ?_); (rfl); (rfl); (simp only [Act.put])))
      exact bodyPost_ret (results_array Try.results36 rfl hbr Try.underlying37 rfl hi37) rfl ⟨rfl, by rw [← HAW.out]; exact hbf⟩
end Go.Proofs.Ytdfobaggdeoggaa
