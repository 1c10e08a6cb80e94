/- The walk of the law ShaTags: it answers true. -/
import Derived.Test.YtpgckbjcacagdaaDoorAwake
import Derived.Test.YtpgckbjcacagdaaDoorParts
import Derived.Test.YtpgckbjcacagdaaDoorRefTag
import Derived.Test.YtpgckbjcacagdaaDoorEqlD
import Derived.Deep.RegionHeld3
import Derived.Deep.DeepCutAuto
namespace Go.Proofs.YtpgckbjcacagdaaDoor
open Go.RowKit
attribute [local go_sem] eqGuard_D neqGuard_D
set_option maxHeartbeats 1000000 in
theorem shaTags_walk (l : List Byte) (hl : l.length = 32) (parts : List (List Byte)) (v : Value) (w : World) (ht : Tab w) (hP : PartsB w v parts) (hn : parts.length ≤ 9223372036854775807) (hls : ∀ i, i < parts.length → (parts.getD i []).length ≤ 9223372036854775807) :
    Calls Tryd.prog 4 #[.agg (l.map B8).toArray, v] w fun e w' => e = .returned (.bool true) ∧ Below w.heap.size w w' := by
  have haw : Hid (∀ W, Below w.heap.size w W → Calls Tryd.prog 9 #[] W fun e w' => e = .returned (.bool true) ∧ Below W.heap.size W w') := fun W hW => awake_any W (ht.below hW ht.pos)
  have hfew : Hid (∀ W, Below w.heap.size w W → Calls Tryd.prog 10 #[v] W fun e w' => FewOk parts e ∧ Below W.heap.size W w') := fun W hW => few_any parts v W (hP.below hW) hn hls
  have HT : Hid (Tab w) := ht
  have htag : Hid (∀ W, Below w.heap.size w W → parts.length + parts.flatten.length ≤ 20000 → Calls Tryd.prog 14 #[.agg (l.map B8).toArray, v] W fun e w' => e = .returned (.agg ((tagOf l parts.flatten).map B8).toArray) ∧ Below W.heap.size W w') := fun W hW hz => tag_any l hl parts v W (ht.below hW ht.pos) (hP.below hW) hz
  have hrtag : Hid (∀ W q N c, N = parts.flatten.length → BytesAt W (.slice q N c) parts.flatten → parts.length + parts.flatten.length ≤ 20000 → Calls Tryd.prog 15 #[.agg (l.map B8).toArray, .slice q N c] W fun e w' => e = .returned (.agg ((tagOf l parts.flatten).map B8).toArray) ∧ Below W.heap.size W w') := fun W q N c hN hb hz => by subst hN; exact refTag_any l hl parts.flatten q c W hb (by omega)
  have hTl : (tagOf l parts.flatten).length = 32 := digest_length _
  obtain ⟨A, hA⟩ : ∃ A : List Value, A = l.map B8 := ⟨_, rfl⟩
  obtain ⟨D, hD⟩ : ∃ D, D = tagOf l parts.flatten := ⟨_, rfl⟩
  have hAl : A.length = 32 := by rw [hA, List.length_map, hl]
  rw [← hA, ← hD] at htag hrtag
  rw [← hD] at hTl
  rw [← hA]
  clear hA hD
  have HP : Hid (PartsB w v parts) := hP
  clear ht hP hls
  have hi26 : (Tryd.prog.info? 26).map (·.size) = some A.length := by rw [hAl]; exact size26
  have hK0 : Blk (w.alloc (.cells A.toArray 26)) w.heap.size A 26 := Blk.new _ _ _
  have hbe0 : Below w.heap.size w (w.alloc (.cells A.toArray 26)) := (Below.refl _ _).alloc (Nat.le_refl _) _
  go_enter Tryd.func4, Tryd.ntmps4
  go_wp2_with fail
  refine (haw.out _ hbe0).mono ?_
  rintro e w1 ⟨rfl, hb1⟩
  have hK1 := hK0.below hb1 hK0.lt
  have hbe1 := hbe0.trans (hb1.mono hbe0.size)
  clear hK0 hb1 hbe0
  go_wp2_with fail
  refine (hfew.out w1 hbe1).mono ?_
  rintro e w2 ⟨⟨b, rfl, hb⟩, hb2⟩
  have hK2 := hK1.below hb2 hK1.lt
  have hbe2 : Below w.heap.size w w2 := hbe1.trans (hb2.mono hbe1.size)
  clear hK1 hb2
  cases b
  · clear hb
    go_wp2_with fail
    refine (haw.out w2 hbe2).mono ?_
    rintro e w3 ⟨rfl, hb3⟩
    go_wp2
    go_ret
    exact ⟨rfl, hbe2.trans (hb3.mono hbe2.size)⟩
  · have hsz := hb rfl
    clear hb
    go_upto_region 3 with (fail)
    have c14 : Hid (∀ w', Below w2.heap.size w2 w' → Calls Tryd.prog 14 #[.agg A.toArray, v] w' fun e w'' => e = .returned (.agg (D.map B8).toArray) ∧ Below w'.heap.size w' w'') := fun w' h => htag.out w' (hbe2.trans (h.mono hbe2.size)) hsz
    have c13 : Hid (∀ w', Below w2.heap.size w2 w' → Calls Tryd.prog 13 #[v] w' fun e w'' => (∃ q N c, e = .returned (.slice q N c) ∧ Hid (N = parts.flatten.length ∧ BytesAt w'' (.slice q N c) parts.flatten)) ∧ Below w'.heap.size w' w'') := fun w' h =>
      (join_any parts v w' (HP.out.below (hbe2.trans (h.mono hbe2.size))) (by omega) (by omega)).mono fun e w'' ⟨⟨q, N, c, hN, he, hB⟩, hb⟩ => ⟨⟨q, N, c, he, hN, hB⟩, hb⟩
    have c15 : Hid (∀ w' q N c, Hid (N = parts.flatten.length ∧ BytesAt w' (.slice q N c) parts.flatten) → Calls Tryd.prog 15 #[.agg A.toArray, .slice q N c] w' fun e w'' => e = .returned (.agg (D.map B8).toArray) ∧ Below w'.heap.size w' w'') := fun w' q N c h => hrtag.out w' q N c h.out.1 h.out.2 hsz
    have hDD : ∀ w', (binOp .eql 26 (.agg (D.map B8).toArray) (.agg (D.map B8).toArray)).run Tryd.prog w' = .ok (.bool true) w' := fun w' => by rw [run_eql_D w' D D hTl hTl]; simp
    have hu26 := Tryd.underlying26
    clear htag hrtag haw hfew HT HP hsz
    have hr : Hid (∀ w', Below w2.heap.size w2 w' → w'.rangeAt w.heap.size 0 A) := fun w' h => (hK2.below h hK2.lt).range
    have hbd : Below w2.heap.size w2 w2.drew := (Below.refl _ _).drew
    refine wp_region_noPanic ?_
    refine wp_region_any (by kernel_rfl) ?_
    change wpAny _ _ _ _ _ _ _ (World.drew _)
    refine take_op (i := 1) v (by exact rfl) (by kernel_rfl) (by kernel_rfl) (by kernel_rfl) (fun _ _ _ h => h) (fun w => by go_simp) ?_
    simp only [Act.put, List.setIfInBounds_toArray, List.set_cons_zero, List.set_cons_succ]
    refine take_op (i := 4) v (by exact rfl) (by kernel_rfl) (by kernel_rfl) (by kernel_rfl) (fun _ _ _ h => h) (fun w => by go_simp) ?_
    simp only [Act.put, List.setIfInBounds_toArray, List.set_cons_zero, List.set_cons_succ]
    refine wpAny_ready (rs := [0, 3]) (by kernel_rfl) (by simp) ?_
    refine ready_load 26 w.heap.size 0 A _ (by exact rfl) (by go_simp) (hr.out _ hbd) Tryd.underlying26 rfl hi26 ?_ ?_
    · simp only [Act.put, List.setIfInBounds_toArray, List.set_cons_zero, List.set_cons_succ]
      refine wpAny_ready (rs := [2, 3]) (by kernel_rfl) (by simp) ?_
      refine ready_call 14 _ _ #[.agg A.toArray, v] (by exact rfl) (by go_simp) (by go_simp) ?_ ?_
      · refine (c14.out _ hbd).mono ?_
        rintro e w3 ⟨rfl, hb3⟩
        refine ⟨_, rfl, ?_⟩
        simp only [Act.put, List.setIfInBounds_toArray, List.set_cons_zero, List.set_cons_succ]
        have hbe3 := hbd.trans (hb3.mono hbd.size)
        refine wpAny_ready (rs := [3, 5]) (by kernel_rfl) (by simp) ?_
        refine ready_load 26 w.heap.size 0 A _ (by exact rfl) (by go_simp) (hr.out _ hbe3) Tryd.underlying26 rfl hi26 ?_ ?_
        · simp only [Act.put, List.setIfInBounds_toArray, List.set_cons_zero, List.set_cons_succ]
          refine wpAny_ready (rs := [5]) (by kernel_rfl) (by simp) ?_
          refine ready_call 13 _ _ #[v] (by exact rfl) (by go_simp) (by go_simp) ?_ AllReady.nil
          refine (c13.out _ hbe3).mono ?_
          rintro e w4 ⟨⟨q, N, c, rfl, hBx⟩, hb4⟩
          refine ⟨_, rfl, ?_⟩
          simp only [Act.put, List.setIfInBounds_toArray, List.set_cons_zero, List.set_cons_succ]
          have hbe4 := hbe3.trans (hb4.mono hbe3.size)
          refine wpAny_ready (rs := [6]) (by kernel_rfl) (by simp) ?_
          refine ready_call 15 _ _ #[.agg A.toArray, .slice q N c] (by exact rfl) (by go_simp) (by go_simp) ?_ AllReady.nil
          refine (c15.out _ _ _ _ hBx).mono ?_
          rintro e w5 ⟨rfl, hb5⟩
          refine ⟨_, rfl, ?_⟩
          simp only [Act.put, List.setIfInBounds_toArray, List.set_cons_zero, List.set_cons_succ]
          have hbe5 := hbe4.trans (hb5.mono hbe4.size)
          refine take_op (i := 7) (.bool true) (by exact rfl) (by kernel_rfl) (by kernel_rfl) (by kernel_rfl) (fun _ _ _ h => h) (fun w => by go_simp) ?_
          simp only [Act.put, List.setIfInBounds_toArray, List.set_cons_zero, List.set_cons_succ]
          refine take_op (i := 8) (.bool true) (by exact rfl) (by kernel_rfl) (by kernel_rfl) (by kernel_rfl) (fun _ _ _ h => h) (fun w => by go_simp) ?_
          simp only [Act.put, List.setIfInBounds_toArray, List.set_cons_zero, List.set_cons_succ]
          refine wpAny_done (by kernel_rfl) (NoPanic.normal ?_) _
          go_wp2
          go_ret
          exact ⟨rfl, hbe2.trans (hbe5.mono hbe2.size)⟩
        · refine ready_call 13 _ _ #[v] (by exact rfl) (by go_simp) (by go_simp) ?_ AllReady.nil
          refine (c13.out _ hbe3).mono ?_
          rintro e w4 ⟨⟨q, N, c, rfl, hBx⟩, hb4⟩
          refine ⟨_, rfl, ?_⟩
          simp only [Act.put, List.setIfInBounds_toArray, List.set_cons_zero, List.set_cons_succ]
          have hbe4 := hbe3.trans (hb4.mono hbe3.size)
          refine wpAny_ready (rs := [3]) (by kernel_rfl) (by simp) ?_
          refine ready_load 26 w.heap.size 0 A _ (by exact rfl) (by go_simp) (hr.out _ hbe4) Tryd.underlying26 rfl hi26 ?_ AllReady.nil
          simp only [Act.put, List.setIfInBounds_toArray, List.set_cons_zero, List.set_cons_succ]
          refine wpAny_ready (rs := [6]) (by kernel_rfl) (by simp) ?_
          refine ready_call 15 _ _ #[.agg A.toArray, .slice q N c] (by exact rfl) (by go_simp) (by go_simp) ?_ AllReady.nil
          refine (c15.out _ _ _ _ hBx).mono ?_
          rintro e w5 ⟨rfl, hb5⟩
          refine ⟨_, rfl, ?_⟩
          simp only [Act.put, List.setIfInBounds_toArray, List.set_cons_zero, List.set_cons_succ]
          have hbe5 := hbe4.trans (hb5.mono hbe4.size)
          refine take_op (i := 7) (.bool true) (by exact rfl) (by kernel_rfl) (by kernel_rfl) (by kernel_rfl) (fun _ _ _ h => h) (fun w => by go_simp) ?_
          simp only [Act.put, List.setIfInBounds_toArray, List.set_cons_zero, List.set_cons_succ]
          refine take_op (i := 8) (.bool true) (by exact rfl) (by kernel_rfl) (by kernel_rfl) (by kernel_rfl) (fun _ _ _ h => h) (fun w => by go_simp) ?_
          simp only [Act.put, List.setIfInBounds_toArray, List.set_cons_zero, List.set_cons_succ]
          refine wpAny_done (by kernel_rfl) (NoPanic.normal ?_) _
          go_wp2
          go_ret
          exact ⟨rfl, hbe2.trans (hbe5.mono hbe2.size)⟩
      · refine ready_load 26 w.heap.size 0 A _ (by exact rfl) (by go_simp) (hr.out _ hbd) Tryd.underlying26 rfl hi26 ?_ AllReady.nil
        simp only [Act.put, List.setIfInBounds_toArray, List.set_cons_zero, List.set_cons_succ]
        refine wpAny_ready (rs := [2]) (by kernel_rfl) (by simp) ?_
        refine ready_call 14 _ _ #[.agg A.toArray, v] (by exact rfl) (by go_simp) (by go_simp) ?_ AllReady.nil
        refine (c14.out _ hbd).mono ?_
        rintro e w3 ⟨rfl, hb3⟩
        refine ⟨_, rfl, ?_⟩
        simp only [Act.put, List.setIfInBounds_toArray, List.set_cons_zero, List.set_cons_succ]
        have hbe3 := hbd.trans (hb3.mono hbd.size)
        refine wpAny_ready (rs := [5]) (by kernel_rfl) (by simp) ?_
        refine ready_call 13 _ _ #[v] (by exact rfl) (by go_simp) (by go_simp) ?_ AllReady.nil
        refine (c13.out _ hbe3).mono ?_
        rintro e w4 ⟨⟨q, N, c, rfl, hBx⟩, hb4⟩
        refine ⟨_, rfl, ?_⟩
        simp only [Act.put, List.setIfInBounds_toArray, List.set_cons_zero, List.set_cons_succ]
        have hbe4 := hbe3.trans (hb4.mono hbe3.size)
        refine wpAny_ready (rs := [6]) (by kernel_rfl) (by simp) ?_
        refine ready_call 15 _ _ #[.agg A.toArray, .slice q N c] (by exact rfl) (by go_simp) (by go_simp) ?_ AllReady.nil
        refine (c15.out _ _ _ _ hBx).mono ?_
        rintro e w5 ⟨rfl, hb5⟩
        refine ⟨_, rfl, ?_⟩
        simp only [Act.put, List.setIfInBounds_toArray, List.set_cons_zero, List.set_cons_succ]
        have hbe5 := hbe4.trans (hb5.mono hbe4.size)
        refine take_op (i := 7) (.bool true) (by exact rfl) (by kernel_rfl) (by kernel_rfl) (by kernel_rfl) (fun _ _ _ h => h) (fun w => by go_simp) ?_
        simp only [Act.put, List.setIfInBounds_toArray, List.set_cons_zero, List.set_cons_succ]
        refine take_op (i := 8) (.bool true) (by exact rfl) (by kernel_rfl) (by kernel_rfl) (by kernel_rfl) (fun _ _ _ h => h) (fun w => by go_simp) ?_
        simp only [Act.put, List.setIfInBounds_toArray, List.set_cons_zero, List.set_cons_succ]
        refine wpAny_done (by kernel_rfl) (NoPanic.normal ?_) _
        go_wp2
        go_ret
        exact ⟨rfl, hbe2.trans (hbe5.mono hbe2.size)⟩
    · refine ready_load 26 w.heap.size 0 A _ (by exact rfl) (by go_simp) (hr.out _ hbd) Tryd.underlying26 rfl hi26 ?_ AllReady.nil
      simp only [Act.put, List.setIfInBounds_toArray, List.set_cons_zero, List.set_cons_succ]
      refine wpAny_ready (rs := [0]) (by kernel_rfl) (by simp) ?_
      refine ready_load 26 w.heap.size 0 A _ (by exact rfl) (by go_simp) (hr.out _ hbd) Tryd.underlying26 rfl hi26 ?_ AllReady.nil
      simp only [Act.put, List.setIfInBounds_toArray, List.set_cons_zero, List.set_cons_succ]
      refine wpAny_ready (rs := [2]) (by kernel_rfl) (by simp) ?_
      refine ready_call 14 _ _ #[.agg A.toArray, v] (by exact rfl) (by go_simp) (by go_simp) ?_ AllReady.nil
      refine (c14.out _ hbd).mono ?_
      rintro e w3 ⟨rfl, hb3⟩
      refine ⟨_, rfl, ?_⟩
      simp only [Act.put, List.setIfInBounds_toArray, List.set_cons_zero, List.set_cons_succ]
      have hbe3 := hbd.trans (hb3.mono hbd.size)
      refine wpAny_ready (rs := [5]) (by kernel_rfl) (by simp) ?_
      refine ready_call 13 _ _ #[v] (by exact rfl) (by go_simp) (by go_simp) ?_ AllReady.nil
      refine (c13.out _ hbe3).mono ?_
      rintro e w4 ⟨⟨q, N, c, rfl, hBx⟩, hb4⟩
      refine ⟨_, rfl, ?_⟩
      simp only [Act.put, List.setIfInBounds_toArray, List.set_cons_zero, List.set_cons_succ]
      have hbe4 := hbe3.trans (hb4.mono hbe3.size)
      refine wpAny_ready (rs := [6]) (by kernel_rfl) (by simp) ?_
      refine ready_call 15 _ _ #[.agg A.toArray, .slice q N c] (by exact rfl) (by go_simp) (by go_simp) ?_ AllReady.nil
      refine (c15.out _ _ _ _ hBx).mono ?_
      rintro e w5 ⟨rfl, hb5⟩
      refine ⟨_, rfl, ?_⟩
      simp only [Act.put, List.setIfInBounds_toArray, List.set_cons_zero, List.set_cons_succ]
      have hbe5 := hbe4.trans (hb5.mono hbe4.size)
      refine take_op (i := 7) (.bool true) (by exact rfl) (by kernel_rfl) (by kernel_rfl) (by kernel_rfl) (fun _ _ _ h => h) (fun w => by go_simp) ?_
      simp only [Act.put, List.setIfInBounds_toArray, List.set_cons_zero, List.set_cons_succ]
      refine take_op (i := 8) (.bool true) (by exact rfl) (by kernel_rfl) (by kernel_rfl) (by kernel_rfl) (fun _ _ _ h => h) (fun w => by go_simp) ?_
      simp only [Act.put, List.setIfInBounds_toArray, List.set_cons_zero, List.set_cons_succ]
      refine wpAny_done (by kernel_rfl) (NoPanic.normal ?_) _
      go_wp2
      go_ret
      exact ⟨rfl, hbe2.trans (hbe5.mono hbe2.size)⟩
end Go.Proofs.YtpgckbjcacagdaaDoor
