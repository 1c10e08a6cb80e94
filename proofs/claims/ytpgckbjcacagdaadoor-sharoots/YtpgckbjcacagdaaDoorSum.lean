/- What a Hash's Sum answers, what writeAll does, and what the package's Sum answers. -/
import Derived.Test.YtpgckbjcacagdaaDoorPad
namespace Go.Proofs.YtpgckbjcacagdaaDoor
open Go.RowKit
attribute [local go_sem] match_U match_B run_cells_U run_cells_B run_store_U run_store_B
attribute [local go_sem ↓] storeAt_U storeAt_B

/-- A new Hash's cells. -/
def zH : List Value := hashCells (List.replicate 8 0) (List.replicate 64 0) 0
theorem zH_length : zH.length = 73 := by simp [zH, hashCells]
theorem zv41 (w : World) : (zeroValue 41).run Tryd.prog w = .ok (.agg zH.toArray) w := by
  have : zH = List.replicate 8 (Value.int .u32 0) ++ (List.replicate 64 (Value.int .u8 0) ++ [Value.int .u64 0]) := by
    unfold zH hashCells
    simp only [List.map_replicate]; rfl
  rw [this]; exact zeroOf zero41 w
attribute [local go_sem] zv41
attribute [local go_sem ↓] zv26
theorem hashAt_zero {w : World} {hb : Nat} (h : Blk w hb zH 41) : HashAt w hb [] :=
  ⟨⟨0, 0, 0, 0, 0, 0, 0, 0⟩, List.replicate 64 0, h, ⟨by simp, by simp, rfl⟩⟩
theorem HashAt.below {w w' : World} {hb B : Nat} {L : List Byte} (h : HashAt w hb L) (hb' : Below B w w') (hB : hb < B) : HashAt w' hb L := by
  obtain ⟨ws, bl, h1, h2⟩ := h
  exact ⟨ws, bl, h1.below hb' hB, h2⟩
theorem HashAt.alloc {w : World} {hb : Nat} {L : List Byte} (h : HashAt w hb L) (o : Obj) : HashAt (w.alloc o) hb L := by
  obtain ⟨ws, bl, h1, h2⟩ := h
  exact ⟨ws, bl, h1.alloc o, h2⟩

set_option maxHeartbeats 1000000 in
theorem sum_nil (w : World) (ht : Tab w) :
    Calls Tryd.prog 18 #[.pointer none] w fun e w' => e = .returned (.agg ((digest []).map B8).toArray) ∧ Below w.heap.size w w' := by
  have HT : Hid (Tab w) := ht
  have hpos := ht.pos
  clear ht
  go_enter Tryd.func18, Tryd.ntmps18
  go_upto_if 5 with (fail)
  go_cut [6] (fun _ W => HashAt W (w.heap.size + 1) [] ∧ Blk W w.heap.size (zB 32) 26 ∧ Below w.heap.size w W)
  case first =>
    go_wp2
    go_meet
    exact ⟨hashAt_zero (Blk.new' _ _ _ _ (by simp)), (Blk.new _ _ _).alloc _, ((Below.refl _ _).alloc (Nat.le_refl _) _).alloc (by simp) _⟩
  case rest =>
    obtain ⟨hHW, hBW, hbW⟩ := hcut
    have hTW : Tab wc := HT.out.below hbW hpos
    have hszW : w.heap.size + 2 ≤ wc.heap.size := by have := hHW; obtain ⟨ws0, bl0, hb0, _⟩ := this; have := hb0.lt; omega
    have hcall : Hid (Calls Tryd.prog 29 #[.pointer (some ⟨w.heap.size + 1, 0, none⟩)] wc fun e w' => e = .returned (.tuple #[]) ∧ HashAt w' (w.heap.size + 1) (([] : List Byte) ++ padOf (([] : List Byte)).length) ∧ Only (w.heap.size + 1) wc w') :=
      pad_any (w.heap.size + 1) ([] : List Byte) wc hTW (by omega) hHW (by simp)
    clear hTW hHW
    go_wp2_with fail
    refine hcall.out.mono ?_
    rintro e w1 ⟨rfl, hH1, hO1⟩
    obtain ⟨ws1, bl1, hB1, hF1⟩ := hH1
    rw [if_neg (by intro h; exact padOf_ne _ (List.append_eq_nil_iff.1 h).2)] at hF1
    have hR1 : Blk w1 w.heap.size (zB 32) 26 := hO1.blk hBW (by omega)
    have hbe1 : Below w.heap.size w w1 := hbW.trans (hO1.below (by omega) (by omega))
    have hi37 : (Tryd.prog.info? 37).map (·.size) = some (ws1.list.map U).length := size37
    have hr37 : w1.rangeAt (w.heap.size + 1) 0 (ws1.list.map U) := hB1.rangeMid 0 _ (hashCells_w _ _ _ rfl)
    have HD : Hid (∀ X, X = ([] : List Byte) → bytesOf ws1.list = digest X) := by
      rintro X rfl
      unfold digest
      rw [hF1.words]
    have hwords : Hid (Calls Tryd.prog 30 #[.agg (ws1.list.map U).toArray] w1 fun e w' => e = .returned (.agg ((bytesOf ws1.list).map B8).toArray) ∧ Below w1.heap.size w1 w') := words_any ws1 w1
    have hbl : (bytesOf ws1.list).length = 32 := bytesOf_length _
    have hi26 : (Tryd.prog.info? 26).map (·.size) = some ((bytesOf ws1.list).map B8).length := by rw [List.length_map, hbl]; exact size26
    have hone : Hid (∀ v ∈ (bytesOf ws1.list).map B8, v.oneCell' = true) := mapB_one _
    generalize bytesOf ws1.list = D at *
    generalize ws1.list = wl at *
    clear hcall hF1 hB1
    go_wp2_with (first
      | ((with_reducible refine wpL_load 37 (w.heap.size + 1) 0 (wl.map U) _ ?_ hr37 Tryd.underlying37 ?_ hi37 ?_); (rfl); (rfl); (simp only [Act.put, List.setIfInBounds_toArray, List.set_cons_zero, List.set_cons_succ])))
    refine hwords.out.mono ?_
    rintro e w2 ⟨rfl, hb2⟩
    have hR2 : Blk w2 w.heap.size (zB 32) 26 := hR1.below hb2 hR1.lt
    have hth : w2.there w.heap.size 0 (D.map B8).length := hR2.there 0 _ (by rw [zB_length, List.length_map, hbl]; omega)
    have hR3 := Blk.setCells (D.map B8) 0 hR2 (by rw [zB_length, List.length_map, hbl]; omega)
    rw [show over (zB 32) 0 (D.map B8) = D.map B8 by simp [over, zB, hbl]] at hR3
    have hbe3 := Below.setCells (hbe1.trans (hb2.mono (Nat.le_of_lt hR1.lt))) (b := w.heap.size) (Nat.le_refl _) 0 (D.map B8)
    go_wp2_with (first
      | ((with_reducible refine wpL_store 26 w.heap.size 0 (D.map B8) ?_ ?_ hth hi26 hone.out ?_); (rfl); (rfl); (simp only [Act.put])))
    exact bodyPost_ret (results_array Tryd.results18 rfl hR3 Tryd.underlying26 rfl hi26) rfl ⟨by rw [HD.out _ rfl], hbe3⟩
set_option maxHeartbeats 1000000 in
theorem sum_some (hb : Nat) (L : List Byte) (w : World) (ht : Tab w) (hH : HashAt w hb L) (hsz : L.length < 1152921504606846976) :
    Calls Tryd.prog 18 #[.pointer (some ⟨hb, 0, none⟩)] w fun e w' => e = .returned (.agg ((digest L).map B8).toArray) ∧ Below w.heap.size w w' := by
  have HT : Hid (Tab w) := ht
  have hpos := ht.pos
  clear ht
  obtain ⟨ws, bl, hB, hF⟩ := hH
  have h73 : (hashCells ws.list bl L.length).length = 73 := hashCells_length _ _ _ rfl hF.len
  have hi41 : (Tryd.prog.info? 41).map (·.size) = some (hashCells ws.list bl L.length).length := by rw [h73]; exact size41
  have hone41 : Hid (∀ v ∈ hashCells ws.list bl L.length, v.oneCell' = true) := by
    intro v hv
    unfold hashCells at hv
    rcases List.mem_append.1 hv with h | h
    · exact mapU_one _ v h
    · rcases List.mem_append.1 h with h | h
      · exact mapB_one _ v h
      · rw [List.mem_singleton.1 h]; rfl
  have hr41 : ((w.alloc (.cells (zB 32).toArray 26)).alloc (.cells zH.toArray 41)).rangeAt hb 0 (hashCells ws.list bl L.length) := ((hB.alloc _).alloc _).range
  have hZ : Blk ((w.alloc (.cells (zB 32).toArray 26)).alloc (.cells zH.toArray 41)) (w.heap.size + 1) zH 41 := Blk.new' _ _ _ _ (by simp)
  have hth41 : ((w.alloc (.cells (zB 32).toArray 26)).alloc (.cells zH.toArray 41)).there (w.heap.size + 1) 0 (hashCells ws.list bl L.length).length := hZ.there 0 _ (by rw [h73, zH_length]; omega)
  have hB2 := Blk.setCells (hashCells ws.list bl L.length) 0 hZ (by rw [h73, zH_length]; omega)
  have hov : over zH 0 (hashCells ws.list bl L.length) = hashCells ws.list bl L.length := by
    unfold over
    rw [List.drop_eq_nil_of_le (by rw [zH_length, h73]; omega)]; simp
  rw [hov] at hB2
  have hR2 : Blk (((w.alloc (.cells (zB 32).toArray 26)).alloc (.cells zH.toArray 41)).setCells (w.heap.size + 1) 0 (hashCells ws.list bl L.length)) w.heap.size (zB 32) 26 :=
    ((Blk.new w (zB 32) 26).alloc _).setCells_ne _ (by omega) _ _
  have hbe2 : Below w.heap.size w (((w.alloc (.cells (zB 32).toArray 26)).alloc (.cells zH.toArray 41)).setCells (w.heap.size + 1) 0 (hashCells ws.list bl L.length)) :=
    Below.setCells (((Below.refl _ _).alloc (Nat.le_refl _) _).alloc (by simp) _) (by omega) _ _
  have HH2 : Hid (HashAt (((w.alloc (.cells (zB 32).toArray 26)).alloc (.cells zH.toArray 41)).setCells (w.heap.size + 1) 0 (hashCells ws.list bl L.length)) (w.heap.size + 1) L) := ⟨ws, bl, hB2, hF⟩
  generalize hashCells ws.list bl L.length = hc at *
  clear hF hov h73 hB2 hB
  go_enter Tryd.func18, Tryd.ntmps18
  go_upto_if 5 with (fail)
  go_cut [6] (fun _ W => HashAt W (w.heap.size + 1) L ∧ Blk W w.heap.size (zB 32) 26 ∧ Below w.heap.size w W)
  case first =>
    go_wp2_with (first
      | ((with_reducible refine wpL_load 41 hb 0 hc _ ?_ hr41 Tryd.underlying41 ?_ hi41 ?_); (rfl); (rfl); (simp only [Act.put, List.setIfInBounds_toArray, List.set_cons_zero, List.set_cons_succ]))
      | ((with_reducible refine wpL_store 41 (w.heap.size + 1) 0 hc ?_ ?_ hth41 hi41 hone41.out ?_); (rfl); (rfl); (simp only [Act.put])))
    go_meet
    exact ⟨HH2.out, hR2, hbe2⟩
  case rest =>
    obtain ⟨hHW, hBW, hbW⟩ := hcut
    have hTW : Tab wc := HT.out.below hbW hpos
    have hszW : w.heap.size + 2 ≤ wc.heap.size := by have := hHW; obtain ⟨ws0, bl0, hb0, _⟩ := this; have := hb0.lt; omega
    have hcall : Hid (Calls Tryd.prog 29 #[.pointer (some ⟨w.heap.size + 1, 0, none⟩)] wc fun e w' => e = .returned (.tuple #[]) ∧ HashAt w' (w.heap.size + 1) (L ++ padOf (L).length) ∧ Only (w.heap.size + 1) wc w') :=
      pad_any (w.heap.size + 1) L wc hTW (by omega) hHW hsz
    clear hTW hHW
    go_wp2_with fail
    refine hcall.out.mono ?_
    rintro e w1 ⟨rfl, hH1, hO1⟩
    obtain ⟨ws1, bl1, hB1, hF1⟩ := hH1
    rw [if_neg (by intro h; exact padOf_ne _ (List.append_eq_nil_iff.1 h).2)] at hF1
    have hR1 : Blk w1 w.heap.size (zB 32) 26 := hO1.blk hBW (by omega)
    have hbe1 : Below w.heap.size w w1 := hbW.trans (hO1.below (by omega) (by omega))
    have hi37 : (Tryd.prog.info? 37).map (·.size) = some (ws1.list.map U).length := size37
    have hr37 : w1.rangeAt (w.heap.size + 1) 0 (ws1.list.map U) := hB1.rangeMid 0 _ (hashCells_w _ _ _ rfl)
    have HD : Hid (∀ X, X = L → bytesOf ws1.list = digest X) := by
      rintro X rfl
      unfold digest
      rw [hF1.words]
    have hwords : Hid (Calls Tryd.prog 30 #[.agg (ws1.list.map U).toArray] w1 fun e w' => e = .returned (.agg ((bytesOf ws1.list).map B8).toArray) ∧ Below w1.heap.size w1 w') := words_any ws1 w1
    have hbl : (bytesOf ws1.list).length = 32 := bytesOf_length _
    have hi26 : (Tryd.prog.info? 26).map (·.size) = some ((bytesOf ws1.list).map B8).length := by rw [List.length_map, hbl]; exact size26
    have hone : Hid (∀ v ∈ (bytesOf ws1.list).map B8, v.oneCell' = true) := mapB_one _
    generalize bytesOf ws1.list = D at *
    generalize ws1.list = wl at *
    clear hcall hF1 hB1
    go_wp2_with (first
      | ((with_reducible refine wpL_load 37 (w.heap.size + 1) 0 (wl.map U) _ ?_ hr37 Tryd.underlying37 ?_ hi37 ?_); (rfl); (rfl); (simp only [Act.put, List.setIfInBounds_toArray, List.set_cons_zero, List.set_cons_succ])))
    refine hwords.out.mono ?_
    rintro e w2 ⟨rfl, hb2⟩
    have hR2 : Blk w2 w.heap.size (zB 32) 26 := hR1.below hb2 hR1.lt
    have hth : w2.there w.heap.size 0 (D.map B8).length := hR2.there 0 _ (by rw [zB_length, List.length_map, hbl]; omega)
    have hR3 := Blk.setCells (D.map B8) 0 hR2 (by rw [zB_length, List.length_map, hbl]; omega)
    rw [show over (zB 32) 0 (D.map B8) = D.map B8 by simp [over, zB, hbl]] at hR3
    have hbe3 := Below.setCells (hbe1.trans (hb2.mono (Nat.le_of_lt hR1.lt))) (b := w.heap.size) (Nat.le_refl _) 0 (D.map B8)
    go_wp2_with (first
      | ((with_reducible refine wpL_store 26 w.heap.size 0 (D.map B8) ?_ ?_ hth hi26 hone.out ?_); (rfl); (rfl); (simp only [Act.put])))
    exact bodyPost_ret (results_array Tryd.results18 rfl hR3 Tryd.underlying26 rfl hi26) rfl ⟨by rw [HD.out _ rfl], hbe3⟩
end Go.Proofs.YtpgckbjcacagdaaDoor
