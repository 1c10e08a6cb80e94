/- The walk of the law ShaRoots: it answers true, if Constants answers the numbers of SHA-256. -/
import Derived.Test.YtpgckbjcacagdaaDoorRefOne
import Derived.Test.YtpgckbjcacagdaaDoorNilWalk
namespace Go.Proofs.YtpgckbjcacagdaaDoor
open Go.RowKit
attribute [local go_sem] eqGuard_D neqGuard_D
attribute [local go_sem ↓] zv44 zv37 zv26
/-- What Constants is to answer. -/
def ConstsOk : Prop := ∀ W : World, Calls Tryd.prog 19 #[] W fun e w' => e = .returned (.tuple #[.agg (H0.list.map U).toArray, .agg (KW.map U).toArray]) ∧ Below W.heap.size W w'
theorem shaRoots_big (p : Option Addr) (m cap : Nat) (w : World) (ht : Tab w) (hm : 55 < m) :
    Calls Tryd.prog 6 #[.slice p m cap] w fun e w' => e = .returned (.bool true) ∧ Below w.heap.size w w' := by
  have haw : Hid (∀ W, Below w.heap.size w W → Calls Tryd.prog 9 #[] W fun e w' => e = .returned (.bool true) ∧ Below W.heap.size W w') := fun W hW => awake_any W (ht.below hW ht.pos)
  have hm' : (55 : Int) < (m : Int) := by omega
  clear ht hm
  go_enter Tryd.func6, Tryd.ntmps6
  go_wp2_with fail
  refine (haw.out w (Below.refl _ _)).mono ?_
  rintro e w1 ⟨rfl, hb1⟩
  go_wp2_with fail
  refine (haw.out w1 hb1).mono ?_
  rintro e w2 ⟨rfl, hb2⟩
  go_wp2
  go_ret
  exact ⟨rfl, hb1.trans (hb2.mono hb1.size)⟩
set_option maxRecDepth 100000 in
set_option maxHeartbeats 1000000 in
theorem shaRoots_walk (hK : ConstsOk) (bs : List Byte) (p : Option Addr) (cap : Nat) (w : World) (ht : Tab w) (hB : BytesAt w (.slice p bs.length cap) bs) (hm : bs.length ≤ 55) :
    Calls Tryd.prog 6 #[.slice p bs.length cap] w fun e w' => e = .returned (.bool true) ∧ Below w.heap.size w w' := by
  have hpos := ht.pos
  have haw : Hid (Calls Tryd.prog 9 #[] w fun e w' => e = .returned (.bool true) ∧ Below w.heap.size w w') := awake_any w ht
  have hm' : ¬ (55 : Int) < (bs.length : Int) := by omega
  have HT : Hid (Tab w) := ht
  have HB : Hid (BytesAt w (.slice p bs.length cap) bs) := hB
  obtain ⟨A, hA⟩ : ∃ A : List Value, A = H0.list.map U := ⟨_, rfl⟩
  obtain ⟨C, hC⟩ : ∃ C : List Value, C = KW.map U := ⟨_, rfl⟩
  have hAl : A.length = 8 := by rw [hA]; rfl
  have hCl : C.length = 64 := by rw [hC]; rfl
  have hi37 : (Tryd.prog.info? 37).map (·.size) = some A.length := by rw [hAl]; exact size37
  have hi44 : (Tryd.prog.info? 44).map (·.size) = some C.length := by rw [hCl]; exact size44
  have hoA : Hid (∀ v ∈ A, v.oneCell' = true) := by rw [hA]; exact mapU_one _
  have hoC : Hid (∀ v ∈ C, v.oneCell' = true) := by rw [hC]; exact mapU_one _
  have hcon : Hid (∀ W : World, Calls Tryd.prog 19 #[] W fun e w' => e = .returned (.tuple #[.agg A.toArray, .agg C.toArray]) ∧ Below W.heap.size W w') := fun W => by rw [hA, hC]; exact hK W
  have hone : Hid (∀ W : World, BytesAt W (.slice p bs.length cap) bs → Calls Tryd.prog 20 #[.agg A.toArray, .agg C.toArray, .slice p bs.length cap] W fun e w' => e = .returned (.agg ((digest bs).map B8).toArray) ∧ Below W.heap.size W w') := fun W h => by rw [hA, hC]; exact one_any bs p cap W h hm
  clear ht hB hA hC
  go_enter Tryd.func6, Tryd.ntmps6
  go_wp2_with fail
  refine haw.out.mono ?_
  rintro e w1 ⟨rfl, hb1⟩
  go_wp2_with fail
  refine (hcon.out _).mono ?_
  rintro e w2 ⟨rfl, hb2⟩
  have hbs2 : Below w.heap.size w w2 := hb1.trans (hb2.mono hb1.size)
  have hlt2 := hbs2.size
  have hb0 : Blk ((w2.alloc (.cells (zU 8).toArray 37)).alloc (.cells (zU 64).toArray 44)) w2.heap.size (zU 8) 37 := (Blk.new _ _ _).alloc _
  have hb1' : Blk ((w2.alloc (.cells (zU 8).toArray 37)).alloc (.cells (zU 64).toArray 44)) (w2.heap.size + 1) (zU 64) 44 := Blk.new' _ _ _ _ (by simp)
  have hbe : Below w.heap.size w ((w2.alloc (.cells (zU 8).toArray 37)).alloc (.cells (zU 64).toArray 44)) := (hbs2.alloc (by omega) _).alloc (by simp; omega) _
  have ht0 := hb0.there 0 A.length (by rw [hAl, zU_length]; omega)
  have hc0 := Blk.setCells A 0 hb0 (by rw [hAl, zU_length]; omega)
  rw [show over (zU 8) 0 A = A by simp [over, zU, hAl]] at hc0
  have hc1 := hb1'.setCells_ne w2.heap.size (by omega) 0 A
  have hbe' := Below.setCells hbe (b := w2.heap.size) (by omega) 0 A
  have ht1 := hc1.there 0 C.length (by rw [hCl, zU_length]; omega)
  have hd1 := Blk.setCells C 0 hc1 (by rw [hCl, zU_length]; omega)
  rw [show over (zU 64) 0 C = C by simp [over, zU, hCl]] at hd1
  have hd0 := hc0.setCells_ne (w2.heap.size + 1) (by omega) 0 C
  have hbeX := Below.setCells hbe' (b := w2.heap.size + 1) (by omega) 0 C
  go_upto_region 4 with (first
    | ((with_reducible refine wpL_store 37 w2.heap.size 0 A ?_ ?_ ht0 hi37 hoA.out ?_); (rfl); (rfl); (simp only [Act.put]))
    | ((with_reducible refine wpL_store 44 (w2.heap.size + 1) 0 C ?_ ?_ ht1 hi44 hoC.out ?_); (rfl); (rfl); (simp only [Act.put])))
  clear hbe' hc0 hc1 hb0 hb1' ht0 ht1 hbe hb1 hb2 hbs2 haw hcon
  generalize (((w2.alloc (.cells (zU 8).toArray 37)).alloc (.cells (zU 64).toArray 44)).setCells w2.heap.size 0 A).setCells (w2.heap.size + 1) 0 C = X at *
  generalize w2.heap.size = M at *
  refine wp_region_noPanic ?_
  refine wp_region_any (by kernel_rfl) ?_
  change wpAny _ _ _ _ _ _ _ (World.drew _)
  have hbY : Below w.heap.size w X.drew := hbeX.drew
  have hk37 : Blk X.drew M A 37 := hd0.drew
  have hk44 : Blk X.drew (M + 1) C 44 := hd1.drew
  clear hd0 hd1 hbeX
  generalize X.drew = Y at *
  have hr37 : Hid (∀ w', Below Y.heap.size Y w' → w'.rangeAt M 0 A) := fun w' h => (hk37.below h hk37.lt).range
  have hr44 : Hid (∀ w', Below Y.heap.size Y w' → w'.rangeAt (M + 1) 0 C) := fun w' h => (hk44.below h hk44.lt).range
  have hbd : Below Y.heap.size Y Y := Below.refl _ _
  have hal : Below Y.heap.size Y (Y.alloc (.cells #[Value.slice p bs.length cap] 29)) := hbd.alloc (Nat.le_refl _) _
  have hBY := HB.out.below hbY
  obtain ⟨D, hD⟩ : ∃ D, D = digest bs := ⟨_, rfl⟩
  have hDl : D.length = 32 := by rw [hD]; exact digest_length _
  have c11 : Hid (Calls Tryd.prog 11 #[.slice (some ⟨Y.heap.size, 0, none⟩) 1 1] (Y.alloc (.cells #[Value.slice p bs.length cap] 29)) fun e w' => e = .returned (.agg (D.map B8).toArray) ∧ Below (Y.alloc (.cells #[Value.slice p bs.length cap] 29)).heap.size (Y.alloc (.cells #[Value.slice p bs.length cap] 29)) w') := by
    have := shaSum_any [bs] _ _ ((HT.out.below hbY hpos).below hal (HT.out.below hbY hpos).pos) (parts_one hBY) (by simp) (by simp; omega)
    rw [show [bs].flatten = bs by simp, ← hD] at this
    exact this
  have c20 : Hid (∀ w', Below Y.heap.size Y w' → Calls Tryd.prog 20 #[.agg A.toArray, .agg C.toArray, .slice p bs.length cap] w' fun e w'' => e = .returned (.agg (D.map B8).toArray) ∧ Below w'.heap.size w' w'') := fun w' h => by
    rw [hD]; exact hone.out w' (hBY.below h)
  have hDD : ∀ w', (binOp .eql 26 (.agg (D.map B8).toArray) (.agg (D.map B8).toArray)).run Tryd.prog w' = .ok (.bool true) w' := fun w' => by rw [run_eql_D w' D D hDl hDl]; simp
  have hu26 := Tryd.underlying26
  clear hD hone hk37 hk44 HT HB
  refine take_op (i := 0) (.slice p bs.length cap) (by exact rfl) (by kernel_rfl) (by kernel_rfl) (by kernel_rfl) (fun _ _ _ h => h) (fun w => by go_simp) ?_
  simp only [Act.put, List.setIfInBounds_toArray, List.set_cons_zero, List.set_cons_succ]
  refine take_op (i := 5) (.slice p bs.length cap) (by exact rfl) (by kernel_rfl) (by kernel_rfl) (by kernel_rfl) (fun _ _ _ h => h) (fun w => by go_simp) ?_
  simp only [Act.put, List.setIfInBounds_toArray, List.set_cons_zero, List.set_cons_succ]
  refine wpAny_ready (rs := [1, 3, 4]) (by kernel_rfl) (by simp) ?_
  refine ready_run (.slice (some ⟨Y.heap.size, 0, none⟩) 1 1) (Y.alloc (.cells #[Value.slice p bs.length cap] 29)) (by exact rfl) (by go_simp) ?_ ?_
  · simp only [Act.put, List.setIfInBounds_toArray, List.set_cons_zero, List.set_cons_succ]
    refine wpAny_ready (rs := [2, 3, 4]) (by kernel_rfl) (by simp) ?_
    refine ready_call 11 _ _ #[.slice (some ⟨Y.heap.size, 0, none⟩) 1 1] (by exact rfl) (by go_simp) (by go_simp) ?_ ?_
    · refine c11.out.mono ?_
      rintro e w3 ⟨rfl, hb3⟩
      refine ⟨_, rfl, ?_⟩
      simp only [Act.put, List.setIfInBounds_toArray, List.set_cons_zero, List.set_cons_succ]
      have hbe3 := hal.trans (hb3.mono hal.size)
      refine wpAny_ready (rs := [3, 4]) (by kernel_rfl) (by simp) ?_
      refine ready_load 37 M 0 A _ (by exact rfl) (by go_simp) (hr37.out _ hbe3) Tryd.underlying37 rfl hi37 ?_ ?_
      · simp only [Act.put, List.setIfInBounds_toArray, List.set_cons_zero, List.set_cons_succ]
        refine wpAny_ready (rs := [4]) (by kernel_rfl) (by simp) ?_
        refine ready_load 44 (M + 1) 0 C _ (by exact rfl) (by go_simp) (hr44.out _ hbe3) Tryd.underlying44 rfl hi44 ?_ AllReady.nil
        simp only [Act.put, List.setIfInBounds_toArray, List.set_cons_zero, List.set_cons_succ]
        refine wpAny_ready (rs := [6]) (by kernel_rfl) (by simp) ?_
        refine ready_call 20 _ _ #[.agg A.toArray, .agg C.toArray, .slice p bs.length cap] (by exact rfl) (by go_simp) (by go_simp) ?_ AllReady.nil
        refine (c20.out _ hbe3).mono ?_
        rintro e w4 ⟨rfl, hb4⟩
        refine ⟨_, rfl, ?_⟩
        simp only [Act.put, List.setIfInBounds_toArray, List.set_cons_zero, List.set_cons_succ]
        have hbe4 := hbe3.trans (hb4.mono hbe3.size)
        refine take_op (i := 7) (.bool true) (by exact rfl) (by kernel_rfl) (by kernel_rfl) (by kernel_rfl) (fun _ _ _ h => h) (fun w => by go_simp) ?_
        simp only [Act.put, List.setIfInBounds_toArray, List.set_cons_zero, List.set_cons_succ]
        refine take_op (i := 8) (.bool true) (by exact rfl) (by kernel_rfl) (by kernel_rfl) (by kernel_rfl) (fun _ _ _ h => h) (fun w => by go_simp) ?_
        simp only [Act.put, List.setIfInBounds_toArray, List.set_cons_zero, List.set_cons_succ]
        refine wpAny_done (by kernel_rfl) (NoPanic.normal ?_) _
        go_wp2
        go_ret
        exact ⟨rfl, hbY.trans (hbe4.mono hbY.size)⟩
      · refine ready_load 44 (M + 1) 0 C _ (by exact rfl) (by go_simp) (hr44.out _ hbe3) Tryd.underlying44 rfl hi44 ?_ AllReady.nil
        simp only [Act.put, List.setIfInBounds_toArray, List.set_cons_zero, List.set_cons_succ]
        refine wpAny_ready (rs := [3]) (by kernel_rfl) (by simp) ?_
        refine ready_load 37 M 0 A _ (by exact rfl) (by go_simp) (hr37.out _ hbe3) Tryd.underlying37 rfl hi37 ?_ AllReady.nil
        simp only [Act.put, List.setIfInBounds_toArray, List.set_cons_zero, List.set_cons_succ]
        refine wpAny_ready (rs := [6]) (by kernel_rfl) (by simp) ?_
        refine ready_call 20 _ _ #[.agg A.toArray, .agg C.toArray, .slice p bs.length cap] (by exact rfl) (by go_simp) (by go_simp) ?_ AllReady.nil
        refine (c20.out _ hbe3).mono ?_
        rintro e w4 ⟨rfl, hb4⟩
        refine ⟨_, rfl, ?_⟩
        simp only [Act.put, List.setIfInBounds_toArray, List.set_cons_zero, List.set_cons_succ]
        have hbe4 := hbe3.trans (hb4.mono hbe3.size)
        refine take_op (i := 7) (.bool true) (by exact rfl) (by kernel_rfl) (by kernel_rfl) (by kernel_rfl) (fun _ _ _ h => h) (fun w => by go_simp) ?_
        simp only [Act.put, List.setIfInBounds_toArray, List.set_cons_zero, List.set_cons_succ]
        refine take_op (i := 8) (.bool true) (by exact rfl) (by kernel_rfl) (by kernel_rfl) (by kernel_rfl) (fun _ _ _ h => h) (fun w => by go_simp) ?_
        simp only [Act.put, List.setIfInBounds_toArray, List.set_cons_zero, List.set_cons_succ]
        refine wpAny_done (by kernel_rfl) (NoPanic.normal ?_) _
        go_wp2
        go_ret
        exact ⟨rfl, hbY.trans (hbe4.mono hbY.size)⟩
    · refine ready_load 37 M 0 A _ (by exact rfl) (by go_simp) (hr37.out _ hal) Tryd.underlying37 rfl hi37 ?_ ?_
      · simp only [Act.put, List.setIfInBounds_toArray, List.set_cons_zero, List.set_cons_succ]
        refine wpAny_ready (rs := [2, 4]) (by kernel_rfl) (by simp) ?_
        refine ready_call 11 _ _ #[.slice (some ⟨Y.heap.size, 0, none⟩) 1 1] (by exact rfl) (by go_simp) (by go_simp) ?_ ?_
        · refine c11.out.mono ?_
          rintro e w3 ⟨rfl, hb3⟩
          refine ⟨_, rfl, ?_⟩
          simp only [Act.put, List.setIfInBounds_toArray, List.set_cons_zero, List.set_cons_succ]
          have hbe3 := hal.trans (hb3.mono hal.size)
          refine wpAny_ready (rs := [4]) (by kernel_rfl) (by simp) ?_
          refine ready_load 44 (M + 1) 0 C _ (by exact rfl) (by go_simp) (hr44.out _ hbe3) Tryd.underlying44 rfl hi44 ?_ AllReady.nil
          simp only [Act.put, List.setIfInBounds_toArray, List.set_cons_zero, List.set_cons_succ]
          refine wpAny_ready (rs := [6]) (by kernel_rfl) (by simp) ?_
          refine ready_call 20 _ _ #[.agg A.toArray, .agg C.toArray, .slice p bs.length cap] (by exact rfl) (by go_simp) (by go_simp) ?_ AllReady.nil
          refine (c20.out _ hbe3).mono ?_
          rintro e w4 ⟨rfl, hb4⟩
          refine ⟨_, rfl, ?_⟩
          simp only [Act.put, List.setIfInBounds_toArray, List.set_cons_zero, List.set_cons_succ]
          have hbe4 := hbe3.trans (hb4.mono hbe3.size)
          refine take_op (i := 7) (.bool true) (by exact rfl) (by kernel_rfl) (by kernel_rfl) (by kernel_rfl) (fun _ _ _ h => h) (fun w => by go_simp) ?_
          simp only [Act.put, List.setIfInBounds_toArray, List.set_cons_zero, List.set_cons_succ]
          refine take_op (i := 8) (.bool true) (by exact rfl) (by kernel_rfl) (by kernel_rfl) (by kernel_rfl) (fun _ _ _ h => h) (fun w => by go_simp) ?_
          simp only [Act.put, List.setIfInBounds_toArray, List.set_cons_zero, List.set_cons_succ]
          refine wpAny_done (by kernel_rfl) (NoPanic.normal ?_) _
          go_wp2
          go_ret
          exact ⟨rfl, hbY.trans (hbe4.mono hbY.size)⟩
        · refine ready_load 44 (M + 1) 0 C _ (by exact rfl) (by go_simp) (hr44.out _ hal) Tryd.underlying44 rfl hi44 ?_ AllReady.nil
          simp only [Act.put, List.setIfInBounds_toArray, List.set_cons_zero, List.set_cons_succ]
          refine wpAny_ready (rs := [2]) (by kernel_rfl) (by simp) ?_
          refine ready_call 11 _ _ #[.slice (some ⟨Y.heap.size, 0, none⟩) 1 1] (by exact rfl) (by go_simp) (by go_simp) ?_ AllReady.nil
          refine c11.out.mono ?_
          rintro e w3 ⟨rfl, hb3⟩
          refine ⟨_, rfl, ?_⟩
          simp only [Act.put, List.setIfInBounds_toArray, List.set_cons_zero, List.set_cons_succ]
          have hbe3 := hal.trans (hb3.mono hal.size)
          refine wpAny_ready (rs := [6]) (by kernel_rfl) (by simp) ?_
          refine ready_call 20 _ _ #[.agg A.toArray, .agg C.toArray, .slice p bs.length cap] (by exact rfl) (by go_simp) (by go_simp) ?_ AllReady.nil
          refine (c20.out _ hbe3).mono ?_
          rintro e w4 ⟨rfl, hb4⟩
          refine ⟨_, rfl, ?_⟩
          simp only [Act.put, List.setIfInBounds_toArray, List.set_cons_zero, List.set_cons_succ]
          have hbe4 := hbe3.trans (hb4.mono hbe3.size)
          refine take_op (i := 7) (.bool true) (by exact rfl) (by kernel_rfl) (by kernel_rfl) (by kernel_rfl) (fun _ _ _ h => h) (fun w => by go_simp) ?_
          simp only [Act.put, List.setIfInBounds_toArray, List.set_cons_zero, List.set_cons_succ]
          refine take_op (i := 8) (.bool true) (by exact rfl) (by kernel_rfl) (by kernel_rfl) (by kernel_rfl) (fun _ _ _ h => h) (fun w => by go_simp) ?_
          simp only [Act.put, List.setIfInBounds_toArray, List.set_cons_zero, List.set_cons_succ]
          refine wpAny_done (by kernel_rfl) (NoPanic.normal ?_) _
          go_wp2
          go_ret
          exact ⟨rfl, hbY.trans (hbe4.mono hbY.size)⟩
      · refine ready_load 44 (M + 1) 0 C _ (by exact rfl) (by go_simp) (hr44.out _ hal) Tryd.underlying44 rfl hi44 ?_ AllReady.nil
        simp only [Act.put, List.setIfInBounds_toArray, List.set_cons_zero, List.set_cons_succ]
        refine wpAny_ready (rs := [2, 3]) (by kernel_rfl) (by simp) ?_
        refine ready_call 11 _ _ #[.slice (some ⟨Y.heap.size, 0, none⟩) 1 1] (by exact rfl) (by go_simp) (by go_simp) ?_ ?_
        · refine c11.out.mono ?_
          rintro e w3 ⟨rfl, hb3⟩
          refine ⟨_, rfl, ?_⟩
          simp only [Act.put, List.setIfInBounds_toArray, List.set_cons_zero, List.set_cons_succ]
          have hbe3 := hal.trans (hb3.mono hal.size)
          refine wpAny_ready (rs := [3]) (by kernel_rfl) (by simp) ?_
          refine ready_load 37 M 0 A _ (by exact rfl) (by go_simp) (hr37.out _ hbe3) Tryd.underlying37 rfl hi37 ?_ AllReady.nil
          simp only [Act.put, List.setIfInBounds_toArray, List.set_cons_zero, List.set_cons_succ]
          refine wpAny_ready (rs := [6]) (by kernel_rfl) (by simp) ?_
          refine ready_call 20 _ _ #[.agg A.toArray, .agg C.toArray, .slice p bs.length cap] (by exact rfl) (by go_simp) (by go_simp) ?_ AllReady.nil
          refine (c20.out _ hbe3).mono ?_
          rintro e w4 ⟨rfl, hb4⟩
          refine ⟨_, rfl, ?_⟩
          simp only [Act.put, List.setIfInBounds_toArray, List.set_cons_zero, List.set_cons_succ]
          have hbe4 := hbe3.trans (hb4.mono hbe3.size)
          refine take_op (i := 7) (.bool true) (by exact rfl) (by kernel_rfl) (by kernel_rfl) (by kernel_rfl) (fun _ _ _ h => h) (fun w => by go_simp) ?_
          simp only [Act.put, List.setIfInBounds_toArray, List.set_cons_zero, List.set_cons_succ]
          refine take_op (i := 8) (.bool true) (by exact rfl) (by kernel_rfl) (by kernel_rfl) (by kernel_rfl) (fun _ _ _ h => h) (fun w => by go_simp) ?_
          simp only [Act.put, List.setIfInBounds_toArray, List.set_cons_zero, List.set_cons_succ]
          refine wpAny_done (by kernel_rfl) (NoPanic.normal ?_) _
          go_wp2
          go_ret
          exact ⟨rfl, hbY.trans (hbe4.mono hbY.size)⟩
        · refine ready_load 37 M 0 A _ (by exact rfl) (by go_simp) (hr37.out _ hal) Tryd.underlying37 rfl hi37 ?_ AllReady.nil
          simp only [Act.put, List.setIfInBounds_toArray, List.set_cons_zero, List.set_cons_succ]
          refine wpAny_ready (rs := [2]) (by kernel_rfl) (by simp) ?_
          refine ready_call 11 _ _ #[.slice (some ⟨Y.heap.size, 0, none⟩) 1 1] (by exact rfl) (by go_simp) (by go_simp) ?_ AllReady.nil
          refine c11.out.mono ?_
          rintro e w3 ⟨rfl, hb3⟩
          refine ⟨_, rfl, ?_⟩
          simp only [Act.put, List.setIfInBounds_toArray, List.set_cons_zero, List.set_cons_succ]
          have hbe3 := hal.trans (hb3.mono hal.size)
          refine wpAny_ready (rs := [6]) (by kernel_rfl) (by simp) ?_
          refine ready_call 20 _ _ #[.agg A.toArray, .agg C.toArray, .slice p bs.length cap] (by exact rfl) (by go_simp) (by go_simp) ?_ AllReady.nil
          refine (c20.out _ hbe3).mono ?_
          rintro e w4 ⟨rfl, hb4⟩
          refine ⟨_, rfl, ?_⟩
          simp only [Act.put, List.setIfInBounds_toArray, List.set_cons_zero, List.set_cons_succ]
          have hbe4 := hbe3.trans (hb4.mono hbe3.size)
          refine take_op (i := 7) (.bool true) (by exact rfl) (by kernel_rfl) (by kernel_rfl) (by kernel_rfl) (fun _ _ _ h => h) (fun w => by go_simp) ?_
          simp only [Act.put, List.setIfInBounds_toArray, List.set_cons_zero, List.set_cons_succ]
          refine take_op (i := 8) (.bool true) (by exact rfl) (by kernel_rfl) (by kernel_rfl) (by kernel_rfl) (fun _ _ _ h => h) (fun w => by go_simp) ?_
          simp only [Act.put, List.setIfInBounds_toArray, List.set_cons_zero, List.set_cons_succ]
          refine wpAny_done (by kernel_rfl) (NoPanic.normal ?_) _
          go_wp2
          go_ret
          exact ⟨rfl, hbY.trans (hbe4.mono hbY.size)⟩
  · refine ready_load 37 M 0 A _ (by exact rfl) (by go_simp) (hr37.out _ hbd) Tryd.underlying37 rfl hi37 ?_ ?_
    · simp only [Act.put, List.setIfInBounds_toArray, List.set_cons_zero, List.set_cons_succ]
      refine wpAny_ready (rs := [1, 4]) (by kernel_rfl) (by simp) ?_
      refine ready_run (.slice (some ⟨Y.heap.size, 0, none⟩) 1 1) (Y.alloc (.cells #[Value.slice p bs.length cap] 29)) (by exact rfl) (by go_simp) ?_ ?_
      · simp only [Act.put, List.setIfInBounds_toArray, List.set_cons_zero, List.set_cons_succ]
        refine wpAny_ready (rs := [2, 4]) (by kernel_rfl) (by simp) ?_
        refine ready_call 11 _ _ #[.slice (some ⟨Y.heap.size, 0, none⟩) 1 1] (by exact rfl) (by go_simp) (by go_simp) ?_ ?_
        · refine c11.out.mono ?_
          rintro e w3 ⟨rfl, hb3⟩
          refine ⟨_, rfl, ?_⟩
          simp only [Act.put, List.setIfInBounds_toArray, List.set_cons_zero, List.set_cons_succ]
          have hbe3 := hal.trans (hb3.mono hal.size)
          refine wpAny_ready (rs := [4]) (by kernel_rfl) (by simp) ?_
          refine ready_load 44 (M + 1) 0 C _ (by exact rfl) (by go_simp) (hr44.out _ hbe3) Tryd.underlying44 rfl hi44 ?_ AllReady.nil
          simp only [Act.put, List.setIfInBounds_toArray, List.set_cons_zero, List.set_cons_succ]
          refine wpAny_ready (rs := [6]) (by kernel_rfl) (by simp) ?_
          refine ready_call 20 _ _ #[.agg A.toArray, .agg C.toArray, .slice p bs.length cap] (by exact rfl) (by go_simp) (by go_simp) ?_ AllReady.nil
          refine (c20.out _ hbe3).mono ?_
          rintro e w4 ⟨rfl, hb4⟩
          refine ⟨_, rfl, ?_⟩
          simp only [Act.put, List.setIfInBounds_toArray, List.set_cons_zero, List.set_cons_succ]
          have hbe4 := hbe3.trans (hb4.mono hbe3.size)
          refine take_op (i := 7) (.bool true) (by exact rfl) (by kernel_rfl) (by kernel_rfl) (by kernel_rfl) (fun _ _ _ h => h) (fun w => by go_simp) ?_
          simp only [Act.put, List.setIfInBounds_toArray, List.set_cons_zero, List.set_cons_succ]
          refine take_op (i := 8) (.bool true) (by exact rfl) (by kernel_rfl) (by kernel_rfl) (by kernel_rfl) (fun _ _ _ h => h) (fun w => by go_simp) ?_
          simp only [Act.put, List.setIfInBounds_toArray, List.set_cons_zero, List.set_cons_succ]
          refine wpAny_done (by kernel_rfl) (NoPanic.normal ?_) _
          go_wp2
          go_ret
          exact ⟨rfl, hbY.trans (hbe4.mono hbY.size)⟩
        · refine ready_load 44 (M + 1) 0 C _ (by exact rfl) (by go_simp) (hr44.out _ hal) Tryd.underlying44 rfl hi44 ?_ AllReady.nil
          simp only [Act.put, List.setIfInBounds_toArray, List.set_cons_zero, List.set_cons_succ]
          refine wpAny_ready (rs := [2]) (by kernel_rfl) (by simp) ?_
          refine ready_call 11 _ _ #[.slice (some ⟨Y.heap.size, 0, none⟩) 1 1] (by exact rfl) (by go_simp) (by go_simp) ?_ AllReady.nil
          refine c11.out.mono ?_
          rintro e w3 ⟨rfl, hb3⟩
          refine ⟨_, rfl, ?_⟩
          simp only [Act.put, List.setIfInBounds_toArray, List.set_cons_zero, List.set_cons_succ]
          have hbe3 := hal.trans (hb3.mono hal.size)
          refine wpAny_ready (rs := [6]) (by kernel_rfl) (by simp) ?_
          refine ready_call 20 _ _ #[.agg A.toArray, .agg C.toArray, .slice p bs.length cap] (by exact rfl) (by go_simp) (by go_simp) ?_ AllReady.nil
          refine (c20.out _ hbe3).mono ?_
          rintro e w4 ⟨rfl, hb4⟩
          refine ⟨_, rfl, ?_⟩
          simp only [Act.put, List.setIfInBounds_toArray, List.set_cons_zero, List.set_cons_succ]
          have hbe4 := hbe3.trans (hb4.mono hbe3.size)
          refine take_op (i := 7) (.bool true) (by exact rfl) (by kernel_rfl) (by kernel_rfl) (by kernel_rfl) (fun _ _ _ h => h) (fun w => by go_simp) ?_
          simp only [Act.put, List.setIfInBounds_toArray, List.set_cons_zero, List.set_cons_succ]
          refine take_op (i := 8) (.bool true) (by exact rfl) (by kernel_rfl) (by kernel_rfl) (by kernel_rfl) (fun _ _ _ h => h) (fun w => by go_simp) ?_
          simp only [Act.put, List.setIfInBounds_toArray, List.set_cons_zero, List.set_cons_succ]
          refine wpAny_done (by kernel_rfl) (NoPanic.normal ?_) _
          go_wp2
          go_ret
          exact ⟨rfl, hbY.trans (hbe4.mono hbY.size)⟩
      · refine ready_load 44 (M + 1) 0 C _ (by exact rfl) (by go_simp) (hr44.out _ hbd) Tryd.underlying44 rfl hi44 ?_ AllReady.nil
        simp only [Act.put, List.setIfInBounds_toArray, List.set_cons_zero, List.set_cons_succ]
        refine wpAny_ready (rs := [1]) (by kernel_rfl) (by simp) ?_
        refine ready_run (.slice (some ⟨Y.heap.size, 0, none⟩) 1 1) (Y.alloc (.cells #[Value.slice p bs.length cap] 29)) (by exact rfl) (by go_simp) ?_ AllReady.nil
        simp only [Act.put, List.setIfInBounds_toArray, List.set_cons_zero, List.set_cons_succ]
        refine wpAny_ready (rs := [2]) (by kernel_rfl) (by simp) ?_
        refine ready_call 11 _ _ #[.slice (some ⟨Y.heap.size, 0, none⟩) 1 1] (by exact rfl) (by go_simp) (by go_simp) ?_ AllReady.nil
        refine c11.out.mono ?_
        rintro e w3 ⟨rfl, hb3⟩
        refine ⟨_, rfl, ?_⟩
        simp only [Act.put, List.setIfInBounds_toArray, List.set_cons_zero, List.set_cons_succ]
        have hbe3 := hal.trans (hb3.mono hal.size)
        refine wpAny_ready (rs := [6]) (by kernel_rfl) (by simp) ?_
        refine ready_call 20 _ _ #[.agg A.toArray, .agg C.toArray, .slice p bs.length cap] (by exact rfl) (by go_simp) (by go_simp) ?_ AllReady.nil
        refine (c20.out _ hbe3).mono ?_
        rintro e w4 ⟨rfl, hb4⟩
        refine ⟨_, rfl, ?_⟩
        simp only [Act.put, List.setIfInBounds_toArray, List.set_cons_zero, List.set_cons_succ]
        have hbe4 := hbe3.trans (hb4.mono hbe3.size)
        refine take_op (i := 7) (.bool true) (by exact rfl) (by kernel_rfl) (by kernel_rfl) (by kernel_rfl) (fun _ _ _ h => h) (fun w => by go_simp) ?_
        simp only [Act.put, List.setIfInBounds_toArray, List.set_cons_zero, List.set_cons_succ]
        refine take_op (i := 8) (.bool true) (by exact rfl) (by kernel_rfl) (by kernel_rfl) (by kernel_rfl) (fun _ _ _ h => h) (fun w => by go_simp) ?_
        simp only [Act.put, List.setIfInBounds_toArray, List.set_cons_zero, List.set_cons_succ]
        refine wpAny_done (by kernel_rfl) (NoPanic.normal ?_) _
        go_wp2
        go_ret
        exact ⟨rfl, hbY.trans (hbe4.mono hbY.size)⟩
    · refine ready_load 44 (M + 1) 0 C _ (by exact rfl) (by go_simp) (hr44.out _ hbd) Tryd.underlying44 rfl hi44 ?_ AllReady.nil
      simp only [Act.put, List.setIfInBounds_toArray, List.set_cons_zero, List.set_cons_succ]
      refine wpAny_ready (rs := [1, 3]) (by kernel_rfl) (by simp) ?_
      refine ready_run (.slice (some ⟨Y.heap.size, 0, none⟩) 1 1) (Y.alloc (.cells #[Value.slice p bs.length cap] 29)) (by exact rfl) (by go_simp) ?_ ?_
      · simp only [Act.put, List.setIfInBounds_toArray, List.set_cons_zero, List.set_cons_succ]
        refine wpAny_ready (rs := [2, 3]) (by kernel_rfl) (by simp) ?_
        refine ready_call 11 _ _ #[.slice (some ⟨Y.heap.size, 0, none⟩) 1 1] (by exact rfl) (by go_simp) (by go_simp) ?_ ?_
        · refine c11.out.mono ?_
          rintro e w3 ⟨rfl, hb3⟩
          refine ⟨_, rfl, ?_⟩
          simp only [Act.put, List.setIfInBounds_toArray, List.set_cons_zero, List.set_cons_succ]
          have hbe3 := hal.trans (hb3.mono hal.size)
          refine wpAny_ready (rs := [3]) (by kernel_rfl) (by simp) ?_
          refine ready_load 37 M 0 A _ (by exact rfl) (by go_simp) (hr37.out _ hbe3) Tryd.underlying37 rfl hi37 ?_ AllReady.nil
          simp only [Act.put, List.setIfInBounds_toArray, List.set_cons_zero, List.set_cons_succ]
          refine wpAny_ready (rs := [6]) (by kernel_rfl) (by simp) ?_
          refine ready_call 20 _ _ #[.agg A.toArray, .agg C.toArray, .slice p bs.length cap] (by exact rfl) (by go_simp) (by go_simp) ?_ AllReady.nil
          refine (c20.out _ hbe3).mono ?_
          rintro e w4 ⟨rfl, hb4⟩
          refine ⟨_, rfl, ?_⟩
          simp only [Act.put, List.setIfInBounds_toArray, List.set_cons_zero, List.set_cons_succ]
          have hbe4 := hbe3.trans (hb4.mono hbe3.size)
          refine take_op (i := 7) (.bool true) (by exact rfl) (by kernel_rfl) (by kernel_rfl) (by kernel_rfl) (fun _ _ _ h => h) (fun w => by go_simp) ?_
          simp only [Act.put, List.setIfInBounds_toArray, List.set_cons_zero, List.set_cons_succ]
          refine take_op (i := 8) (.bool true) (by exact rfl) (by kernel_rfl) (by kernel_rfl) (by kernel_rfl) (fun _ _ _ h => h) (fun w => by go_simp) ?_
          simp only [Act.put, List.setIfInBounds_toArray, List.set_cons_zero, List.set_cons_succ]
          refine wpAny_done (by kernel_rfl) (NoPanic.normal ?_) _
          go_wp2
          go_ret
          exact ⟨rfl, hbY.trans (hbe4.mono hbY.size)⟩
        · refine ready_load 37 M 0 A _ (by exact rfl) (by go_simp) (hr37.out _ hal) Tryd.underlying37 rfl hi37 ?_ AllReady.nil
          simp only [Act.put, List.setIfInBounds_toArray, List.set_cons_zero, List.set_cons_succ]
          refine wpAny_ready (rs := [2]) (by kernel_rfl) (by simp) ?_
          refine ready_call 11 _ _ #[.slice (some ⟨Y.heap.size, 0, none⟩) 1 1] (by exact rfl) (by go_simp) (by go_simp) ?_ AllReady.nil
          refine c11.out.mono ?_
          rintro e w3 ⟨rfl, hb3⟩
          refine ⟨_, rfl, ?_⟩
          simp only [Act.put, List.setIfInBounds_toArray, List.set_cons_zero, List.set_cons_succ]
          have hbe3 := hal.trans (hb3.mono hal.size)
          refine wpAny_ready (rs := [6]) (by kernel_rfl) (by simp) ?_
          refine ready_call 20 _ _ #[.agg A.toArray, .agg C.toArray, .slice p bs.length cap] (by exact rfl) (by go_simp) (by go_simp) ?_ AllReady.nil
          refine (c20.out _ hbe3).mono ?_
          rintro e w4 ⟨rfl, hb4⟩
          refine ⟨_, rfl, ?_⟩
          simp only [Act.put, List.setIfInBounds_toArray, List.set_cons_zero, List.set_cons_succ]
          have hbe4 := hbe3.trans (hb4.mono hbe3.size)
          refine take_op (i := 7) (.bool true) (by exact rfl) (by kernel_rfl) (by kernel_rfl) (by kernel_rfl) (fun _ _ _ h => h) (fun w => by go_simp) ?_
          simp only [Act.put, List.setIfInBounds_toArray, List.set_cons_zero, List.set_cons_succ]
          refine take_op (i := 8) (.bool true) (by exact rfl) (by kernel_rfl) (by kernel_rfl) (by kernel_rfl) (fun _ _ _ h => h) (fun w => by go_simp) ?_
          simp only [Act.put, List.setIfInBounds_toArray, List.set_cons_zero, List.set_cons_succ]
          refine wpAny_done (by kernel_rfl) (NoPanic.normal ?_) _
          go_wp2
          go_ret
          exact ⟨rfl, hbY.trans (hbe4.mono hbY.size)⟩
      · refine ready_load 37 M 0 A _ (by exact rfl) (by go_simp) (hr37.out _ hbd) Tryd.underlying37 rfl hi37 ?_ AllReady.nil
        simp only [Act.put, List.setIfInBounds_toArray, List.set_cons_zero, List.set_cons_succ]
        refine wpAny_ready (rs := [1]) (by kernel_rfl) (by simp) ?_
        refine ready_run (.slice (some ⟨Y.heap.size, 0, none⟩) 1 1) (Y.alloc (.cells #[Value.slice p bs.length cap] 29)) (by exact rfl) (by go_simp) ?_ AllReady.nil
        simp only [Act.put, List.setIfInBounds_toArray, List.set_cons_zero, List.set_cons_succ]
        refine wpAny_ready (rs := [2]) (by kernel_rfl) (by simp) ?_
        refine ready_call 11 _ _ #[.slice (some ⟨Y.heap.size, 0, none⟩) 1 1] (by exact rfl) (by go_simp) (by go_simp) ?_ AllReady.nil
        refine c11.out.mono ?_
        rintro e w3 ⟨rfl, hb3⟩
        refine ⟨_, rfl, ?_⟩
        simp only [Act.put, List.setIfInBounds_toArray, List.set_cons_zero, List.set_cons_succ]
        have hbe3 := hal.trans (hb3.mono hal.size)
        refine wpAny_ready (rs := [6]) (by kernel_rfl) (by simp) ?_
        refine ready_call 20 _ _ #[.agg A.toArray, .agg C.toArray, .slice p bs.length cap] (by exact rfl) (by go_simp) (by go_simp) ?_ AllReady.nil
        refine (c20.out _ hbe3).mono ?_
        rintro e w4 ⟨rfl, hb4⟩
        refine ⟨_, rfl, ?_⟩
        simp only [Act.put, List.setIfInBounds_toArray, List.set_cons_zero, List.set_cons_succ]
        have hbe4 := hbe3.trans (hb4.mono hbe3.size)
        refine take_op (i := 7) (.bool true) (by exact rfl) (by kernel_rfl) (by kernel_rfl) (by kernel_rfl) (fun _ _ _ h => h) (fun w => by go_simp) ?_
        simp only [Act.put, List.setIfInBounds_toArray, List.set_cons_zero, List.set_cons_succ]
        refine take_op (i := 8) (.bool true) (by exact rfl) (by kernel_rfl) (by kernel_rfl) (by kernel_rfl) (fun _ _ _ h => h) (fun w => by go_simp) ?_
        simp only [Act.put, List.setIfInBounds_toArray, List.set_cons_zero, List.set_cons_succ]
        refine wpAny_done (by kernel_rfl) (NoPanic.normal ?_) _
        go_wp2
        go_ret
        exact ⟨rfl, hbY.trans (hbe4.mono hbY.size)⟩
end Go.Proofs.YtpgckbjcacagdaaDoor
