/- What the package's Tag answers: the HMAC. -/
import Derived.Test.YtpgckbjcacagdaaDoorKey
import Derived.Test.YtpgckbjcacagdaaDoorParts
namespace Go.Proofs.YtpgckbjcacagdaaDoor
open Go.RowKit
attribute [local go_sem] zv41
attribute [local go_sem ↓] zv26 zv38
theorem blk_bytes {w : World} {b : Nat} {l : List Byte} {t : TypeId} (n : Nat) (hn : l.length = n) (h : Blk w b (l.map B8) t) : BytesAt w (.slice (some ⟨b, 0, none⟩) n n) l := by
  subst hn
  refine ⟨_, _, rfl, Nat.le_refl _, (fun h => by cases h), fun _ => ⟨b, 0, rfl, fun i hi => ?_⟩⟩
  rw [Nat.zero_add]; exact h.cellB hi
theorem blk_slice {w : World} {b hb : Nat} {l : List Byte} {t : TypeId} (n : Nat) (hn : l.length = n) (h : Blk w b (l.map B8) t) (hne : b ≠ hb) : SliceB w hb (.slice (some ⟨b, 0, none⟩) n n) l := by
  subst hn
  refine ⟨_, _, rfl, Nat.le_refl _, fun _ => ⟨b, 0, rfl, hne, fun i hi => ?_⟩⟩
  rw [Nat.zero_add]; exact h.cellB hi
theorem parts_two {w : World} {v1 v2 : Value} {b1 b2 : List Byte} (h1 : BytesAt w v1 b1) (h2 : BytesAt w v2 b2) : PartsAt (w.alloc (.cells #[v1, v2] 29)) ((w.alloc (.cells #[v1, v2] 29)).heap.size + 1) (.slice (some ⟨w.heap.size, 0, none⟩) 2 2) [b1, b2] := by
  have hb : Below w.heap.size w (w.alloc (.cells #[v1, v2] 29)) := (Below.refl _ _).alloc (Nat.le_refl _) _
  refine ⟨_, 2, [v1, v2], rfl, fun i hi => ?_, fun _ => ⟨w.heap.size, 0, rfl, by simp; omega, fun i hi => ?_⟩⟩
  · obtain rfl | rfl : i = 0 ∨ i = 1 := by simp at hi; omega
    · exact (h1.below hb).sliceB (by omega)
    · exact (h2.below hb).sliceB (by omega)
  · obtain rfl | rfl : i = 0 ∨ i = 1 := by simp at hi; omega
    all_goals
      rw [cell_of_row _ _ _ _ _ _ (heap_alloc_last w _)]
      rfl
section
variable {P : Program} {ops : Array Oper} {Q : Exit → Act → World → Prop} {md : Region.Mode} {fuel : Nat} {listed : Array Bool} {a : Act} {w : World} {i : Nat} {rs : List Nat}
theorem ready_run {dd : Option Tmp} {opx : Op} {tt : TypeId} {pos : String} {af : Array Edge} (v : Value) (w' : World) (ho : ops[i]? = some { dst := dd, op := opx, type := tt, pos := pos, after := af, guard := none })
    (hr : (execOp a.eval { dst := dd, op := opx, type := tt, pos := pos, after := af, guard := none }).run P w = .ok (.value v) w')
    (h : wpAny P md ops Q fuel (listed.setIfInBounds i true) (a.put dd v) w') (hs : AllReady P md ops Q fuel listed a w rs) : AllReady P md ops Q fuel listed a w (i :: rs) :=
  AllReady.cons ho (fun K hK => by
    rw [if_pos (by simp [Region.wanted])]
    unfold Oper.wp
    rw [hr]
    exact hK _ _ h) hs
end
/-- HMAC. -/
def tagOf (l bs : List Byte) : List Byte := digest (keyTo l 92 64 ++ digest (keyTo l 54 64 ++ bs))
set_option maxHeartbeats 1000000 in
theorem tag_any (l : List Byte) (hl : l.length = 32) (parts : List (List Byte)) (v : Value) (w : World) (ht : Tab w) (hP : PartsB w v parts) (hsz : parts.length + parts.flatten.length ≤ 20000) :
    Calls Tryd.prog 14 #[.agg (l.map B8).toArray, v] w fun e w' => e = .returned (.agg ((tagOf l parts.flatten).map B8).toArray) ∧ Below w.heap.size w w' := by
  have hpos := ht.pos
  have HT : Hid (Tab w) := ht
  have HP : Hid (PartsB w v parts) := hP
  obtain ⟨A, hA⟩ : ∃ A : List Value, A = l.map B8 := ⟨_, rfl⟩
  have hk1 : Hid (∀ W, Calls Tryd.prog 26 #[.agg A.toArray, .int .u8 54] W fun e w' => e = .returned (.agg ((keyTo l 54 64).map B8).toArray) ∧ Below W.heap.size W w') := fun W => by rw [hA]; exact key_any l hl 54 W
  have hk2 : Hid (∀ W, Calls Tryd.prog 26 #[.agg A.toArray, .int .u8 92] W fun e w' => e = .returned (.agg ((keyTo l 92 64).map B8).toArray) ∧ Below W.heap.size W w') := fun W => by rw [hA]; exact key_any l hl 92 W
  have hAl : A.length = 32 := by rw [hA, List.length_map, hl]
  have hl1 := keyTo_length l hl 54 64
  have hl2 := keyTo_length l hl 92 64
  rw [← hA]
  have HT1 : Hid (∀ X, X = parts.flatten → tagOf l X = digest (keyTo l 92 64 ++ digest (keyTo l 54 64 ++ X))) := fun _ _ => rfl
  obtain ⟨K1, hK1⟩ : ∃ K, K = keyTo l 54 64 := ⟨_, rfl⟩
  obtain ⟨K2, hK2⟩ : ∃ K, K = keyTo l 92 64 := ⟨_, rfl⟩
  rw [← hK1, ← hK2] at HT1
  rw [← hK1] at hk1 hl1
  rw [← hK2] at hk2 hl2
  clear hK1 hK2 hA ht hP
  have hi26 : (Tryd.prog.info? 26).map (·.size) = some A.length := by rw [hAl]; exact size26
  have hi38 : (Tryd.prog.info? 38).map (·.size) = some (K1.map B8).length := by rw [List.length_map, hl1]; exact size38
  have hi38' : (Tryd.prog.info? 38).map (·.size) = some (K2.map B8).length := by rw [List.length_map, hl2]; exact size38
  have hone1 : Hid (∀ v ∈ K1.map B8, v.oneCell' = true) := mapB_one _
  have hone2 : Hid (∀ v ∈ K2.map B8, v.oneCell' = true) := mapB_one _
  have hz1 : (zB 64).length = (K1.map B8).length := by rw [List.length_map, hl1, zB_length]
  have hz2 : (zB 64).length = (K2.map B8).length := by rw [List.length_map, hl2, zB_length]
  have hkB : Blk ((w.alloc (.cells A.toArray 26)).alloc (.cells (zB 32).toArray 26)) w.heap.size A 26 := (Blk.new _ _ _).alloc _
  have hrB : Blk ((w.alloc (.cells A.toArray 26)).alloc (.cells (zB 32).toArray 26)) (w.heap.size + 1) (zB 32) 26 := Blk.new' _ _ _ _ (by simp)
  have hbe0 : Below w.heap.size w ((w.alloc (.cells A.toArray 26)).alloc (.cells (zB 32).toArray 26)) := ((Below.refl _ _).alloc (Nat.le_refl _) _).alloc (by simp) _
  have hr0 := hkB.range
  go_enter Tryd.func14, Tryd.ntmps14
  go_wp2_with (first
    | ((with_reducible refine wpL_load 26 w.heap.size 0 A _ ?_ hr0 Tryd.underlying26 ?_ hi26 ?_); (rfl); (rfl); (simp only [Act.put, List.setIfInBounds_toArray, List.set_cons_zero, List.set_cons_succ])))
  refine (hk1.out _).mono ?_
  rintro e w1 ⟨rfl, hb1⟩
  have hkB1 := (hkB.below hb1 hkB.lt).alloc (.cells (K1.map B8).toArray 38)
  have hrB1 := (hrB.below hb1 hrB.lt).alloc (.cells (K1.map B8).toArray 38)
  have hin1 : Blk (w1.alloc (.cells (K1.map B8).toArray 38)) w1.heap.size (K1.map B8) 38 := Blk.new _ _ _
  have hbs1 := (hbe0.trans (hb1.mono hbe0.size))
  have hbe1 : Below w.heap.size w (w1.alloc (.cells (K1.map B8).toArray 38)) := hbs1.alloc hbs1.size _
  have hlt1 : w.heap.size + 2 ≤ w1.heap.size := by have := hb1.size; simpa using this
  have hr1 := hkB1.range
  clear hr0 hkB hrB hbe0 hb1 hbs1
  go_wp2_with (first
    | ((with_reducible refine wpL_new 38 (zB 64) (K1.map B8) zv38 hz1 ?_ ?_ hi38 hone1.out ?_); (rfl); (rfl); (simp only [Act.put, List.setIfInBounds_toArray, List.set_cons_zero, List.set_cons_succ]))
    | ((with_reducible refine wpL_load 26 w.heap.size 0 A _ ?_ hr1 Tryd.underlying26 ?_ hi26 ?_); (rfl); (rfl); (simp only [Act.put, List.setIfInBounds_toArray, List.set_cons_zero, List.set_cons_succ])))
  generalize w1.alloc (.cells (K1.map B8).toArray 38) = W1 at *
  generalize w1.heap.size = b1 at *
  refine (hk2.out _).mono ?_
  rintro e w2 ⟨rfl, hb2⟩
  have hrB2 := ((hrB1.below hb2 hrB1.lt).alloc (.cells (K2.map B8).toArray 38)).alloc (.cells zH.toArray 41)
  have hin2 := ((hin1.below hb2 hin1.lt).alloc (.cells (K2.map B8).toArray 38)).alloc (.cells zH.toArray 41)
  have hou2 : Blk ((w2.alloc (.cells (K2.map B8).toArray 38)).alloc (.cells zH.toArray 41)) w2.heap.size (K2.map B8) 38 := (Blk.new _ _ _).alloc _
  have hH2 : HashAt ((w2.alloc (.cells (K2.map B8).toArray 38)).alloc (.cells zH.toArray 41)) (w2.heap.size + 1) [] := hashAt_zero (Blk.new' _ _ _ _ (by simp))
  have hbs2 := (hbe1.trans (hb2.mono hbe1.size))
  have hbe2 : Below w.heap.size w ((w2.alloc (.cells (K2.map B8).toArray 38)).alloc (.cells zH.toArray 41)) := (hbs2.alloc hbs2.size _).alloc (by have := hbs2.size; simp; omega) _
  have hlt2 : b1 < w2.heap.size := by have := hb2.size; have := hin1.lt; omega
  have hszW2 : ((w2.alloc (.cells (K2.map B8).toArray 38)).alloc (.cells zH.toArray 41)).heap.size = w2.heap.size + 2 := by simp
  clear hr1 hkB1 hrB1 hin1 hb2 hbs2 hbe1 hk1 hk2
  go_wp2_with (first
    | ((with_reducible refine wpL_new 38 (zB 64) (K2.map B8) zv38 hz2 ?_ ?_ hi38' hone2.out ?_); (rfl); (rfl); (simp only [Act.put, List.setIfInBounds_toArray, List.set_cons_zero, List.set_cons_succ])))
  generalize (w2.alloc (.cells (K2.map B8).toArray 38)).alloc (.cells zH.toArray 41) = W2 at *
  generalize w2.heap.size = b2 at *
  have hw3 : Hid (Calls Tryd.prog 17 #[.pointer (some ⟨b2 + 1, 0, none⟩), .slice (some ⟨b1, 0, none⟩) 64 64] W2 fun e w' => e = .returned (.tuple #[]) ∧ HashAt w' (b2 + 1) K1 ∧ Only (b2 + 1) W2 w') := by
    have := write_any (b2 + 1) [] K1 _ W2 (HT.out.below hbe2 hpos) (by omega) hH2 (blk_slice 64 hl1 hin2 (by omega)) (by simp; omega)
    rw [List.nil_append] at this; exact this
  refine hw3.out.mono ?_
  rintro e w3 ⟨rfl, hH3, hO3⟩
  have hT3 : Hid (Tab w3) := Only.tab hO3 (HT.out.below hbe2 hpos) (by omega)
  have hbe3 : Below w.heap.size w w3 := hbe2.trans (hO3.below (by omega) (by omega))
  have hPA : PartsAt w3 (b2 + 1) v parts := (HP.out.at (hb := b2 + 1) (by omega)).only ((Only.of_below hbe2).trans hO3)
  have hw4 : Hid (Calls Tryd.prog 23 #[.pointer (some ⟨b2 + 1, 0, none⟩), v] w3 fun e w' => e = .returned (.tuple #[]) ∧ HashAt w' (b2 + 1) (K1 ++ parts.flatten) ∧ Only (b2 + 1) w3 w') :=
    writeAll_any (b2 + 1) K1 parts v w3 hT3.out (by omega) hH3 hPA (by omega) (by omega)
  have hrB3 := hO3.blk hrB2 (by omega)
  have hou3 := hO3.blk hou2 (by omega)
  have hsz3 := hO3.size
  clear hw3 hH3 hPA hH2 hin2 hrB2 hou2 hO3
  go_wp2_with fail
  refine hw4.out.mono ?_
  rintro e w4 ⟨rfl, hH4, hO4⟩
  have hT4 : Hid (Tab w4) := Only.tab hO4 hT3.out (by omega)
  have hbe4 : Below w.heap.size w w4 := hbe3.trans (hO4.below (by omega) (by omega))
  have hrB4 := hO4.blk hrB3 (by omega)
  have hou4 := hO4.blk hou3 (by omega)
  have hsz4 := hO4.size
  have hex : ∃ D : List Byte, D.length = 32 ∧ Hid (∀ X, X = K1 ++ parts.flatten → digest X = D) := ⟨digest (K1 ++ parts.flatten), digest_length _, by rintro X rfl; rfl⟩
  obtain ⟨D, hDl, HD⟩ := hex
  have hw5 : Hid (Calls Tryd.prog 18 #[.pointer (some ⟨b2 + 1, 0, none⟩)] w4 fun e w' => e = .returned (.agg (D.map B8).toArray) ∧ Below w4.heap.size w4 w') := by
    have := sum_some (b2 + 1) (K1 ++ parts.flatten) w4 hT4.out hH4 (by rw [List.length_append]; omega)
    rw [HD.out _ rfl] at this; exact this
  clear hw4 hH4 hO4 hrB3 hou3 hT3 hbe3
  go_wp2_with fail
  refine hw5.out.mono ?_
  rintro e w5 ⟨rfl, hb5⟩
  have hiD : (Tryd.prog.info? 26).map (·.size) = some (D.map B8).length := by rw [List.length_map, hDl]; exact size26
  have honeD : Hid (∀ v ∈ D.map B8, v.oneCell' = true) := mapB_one _
  have hzD : (zB 32).length = (D.map B8).length := by rw [List.length_map, hDl, zB_length]
  have hrB5 := (hrB4.below hb5 hrB4.lt).alloc (.cells (D.map B8).toArray 26)
  have hou5 := (hou4.below hb5 hou4.lt).alloc (.cells (D.map B8).toArray 26)
  have hdi5 : Blk (w5.alloc (.cells (D.map B8).toArray 26)) w5.heap.size (D.map B8) 26 := Blk.new _ _ _
  have hbs5 := (hbe4.trans (hb5.mono hbe4.size))
  have hbe5 : Below w.heap.size w (w5.alloc (.cells (D.map B8).toArray 26)) := hbs5.alloc hbs5.size _
  clear hw5 hrB4 hou4 hb5 hbs5 hbe4 hT4
  go_wp2_with (first
    | ((with_reducible refine wpL_new 26 (zB 32) (D.map B8) zv26 hzD ?_ ?_ hiD honeD.out ?_); (rfl); (rfl); (simp only [Act.put, List.setIfInBounds_toArray, List.set_cons_zero, List.set_cons_succ])))
  generalize w5.alloc (.cells (D.map B8).toArray 26) = W5 at *
  generalize w5.heap.size = b5 at *
  have hT5 : Hid (Tab W5.drew) := HT.out.below hbe5.drew hpos
  have hB1 : BytesAt W5.drew (.slice (some ⟨b2, 0, none⟩) 64 64) K2 := blk_bytes 64 hl2 hou5.drew
  have hB2 : BytesAt W5.drew (.slice (some ⟨b5, 0, none⟩) 32 32) D := blk_bytes 32 hDl hdi5.drew
  have hex : ∃ E : List Byte, E.length = 32 ∧ Hid (∀ X, X = K2 ++ D → digest X = E) := ⟨digest (K2 ++ D), digest_length _, by rintro X rfl; rfl⟩
  obtain ⟨E, hEl, HE⟩ := hex
  have hw6 : Hid (Calls Tryd.prog 11 #[.slice (some ⟨W5.drew.heap.size, 0, none⟩) 2 2] (W5.drew.alloc (.cells #[.slice (some ⟨b2, 0, none⟩) 64 64, .slice (some ⟨b5, 0, none⟩) 32 32] 29)) fun e w' => e = .returned (.agg (E.map B8).toArray) ∧ Below (W5.drew.alloc (.cells #[.slice (some ⟨b2, 0, none⟩) 64 64, .slice (some ⟨b5, 0, none⟩) 32 32] 29)).heap.size (W5.drew.alloc (.cells #[.slice (some ⟨b2, 0, none⟩) 64 64, .slice (some ⟨b5, 0, none⟩) 32 32] 29)) w') := by
    have := shaSum_any [K2, D] _ _ (hT5.out.below ((Below.refl _ _).alloc (Nat.le_refl _) _) hT5.out.pos) (parts_two hB1 hB2) (by simp) (by simp; omega)
    rw [show [K2, D].flatten = K2 ++ D by simp, HE.out _ rfl] at this
    exact this
  have hrB6 := hrB5.drew.alloc (.cells #[.slice (some ⟨b2, 0, none⟩) 64 64, .slice (some ⟨b5, 0, none⟩) 32 32] 29)
  have hbe6 : Below w.heap.size w (W5.drew.alloc (.cells #[.slice (some ⟨b2, 0, none⟩) 64 64, .slice (some ⟨b5, 0, none⟩) 32 32] 29)) := hbe5.drew.alloc hbe5.drew.size _
  have hiE : (Tryd.prog.info? 26).map (·.size) = some (E.map B8).length := by rw [List.length_map, hEl]; exact size26
  have honeE : Hid (∀ v ∈ E.map B8, v.oneCell' = true) := mapB_one _
  clear hB1 hB2 hT5 hrB5 hou5 hdi5 hbe5
  refine wp_region_noPanic ?_
  refine wp_region_any (by kernel_rfl) ?_
  change wpAny _ _ _ _ _ _ _ (World.drew _)
  generalize W5.drew = W6 at *
  refine take_op (i := 0) (.slice (some ⟨b2, 0, none⟩) 64 64) (by exact rfl) (by kernel_rfl) (by kernel_rfl) (by kernel_rfl) (fun _ _ _ h => h) (fun w => by go_simp) ?_
  simp only [Act.put, List.setIfInBounds_toArray, List.set_cons_zero, List.set_cons_succ]
  refine take_op (i := 1) (.slice (some ⟨b5, 0, none⟩) 32 32) (by exact rfl) (by kernel_rfl) (by kernel_rfl) (by kernel_rfl) (fun _ _ _ h => h) (fun w => by go_simp) ?_
  simp only [Act.put, List.setIfInBounds_toArray, List.set_cons_zero, List.set_cons_succ]
  refine wpAny_ready (rs := [2]) (by kernel_rfl) (by simp) ?_
  refine ready_run (.slice (some ⟨W6.heap.size, 0, none⟩) 2 2) (W6.alloc (.cells #[.slice (some ⟨b2, 0, none⟩) 64 64, .slice (some ⟨b5, 0, none⟩) 32 32] 29)) (by exact rfl) (by go_simp) ?_ AllReady.nil
  simp only [Act.put, List.setIfInBounds_toArray, List.set_cons_zero, List.set_cons_succ]
  refine wpAny_ready (rs := [3]) (by kernel_rfl) (by simp) ?_
  refine ready_call 11 _ _ #[.slice (some ⟨W6.heap.size, 0, none⟩) 2 2] (by exact rfl) (by go_simp) (by go_simp) ?_ AllReady.nil
  refine hw6.out.mono ?_
  rintro e w7 ⟨rfl, hb7⟩
  refine ⟨_, rfl, ?_⟩
  simp only [Act.put, List.setIfInBounds_toArray, List.set_cons_zero, List.set_cons_succ]
  have hrB7 := hrB6.below hb7 hrB6.lt
  have hth := hrB7.there 0 (E.map B8).length (by rw [List.length_map, hEl, zB_length]; omega)
  have hbr := Blk.setCells (E.map B8) 0 hrB7 (by rw [List.length_map, hEl, zB_length]; omega)
  rw [show over (zB 32) 0 (E.map B8) = E.map B8 by simp [over, zB, hEl]] at hbr
  have hbf := Below.setCells (hbe6.trans (hb7.mono hbe6.size)) (b := w.heap.size + 1) (by omega) 0 (E.map B8)
  refine wpAny_ready (rs := [4]) (by kernel_rfl) (by simp) ?_
  refine ready_store 26 (w.heap.size + 1) 0 (E.map B8) (by exact rfl) (by go_simp) (by go_simp) hth hiE honeE.out ?_ AllReady.nil
  simp only [Act.put]
  refine wpAny_done (by kernel_rfl) (NoPanic.normal ?_) _
  go_wp2
  exact bodyPost_ret (results_array Tryd.results14 rfl hbr Tryd.underlying26 rfl hiE) rfl ⟨by rw [HT1.out _ rfl, HD.out _ rfl, HE.out _ rfl], hbf⟩
end Go.Proofs.YtpgckbjcacagdaaDoor
